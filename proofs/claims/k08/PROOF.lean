import PyProof.Rows.All
import Wide.All
import OpenK.AllK
import Wide.FinOn
import PyProof.EqAt
import PyProof.EqKinds
import PyProof.TupleCall
import HandS.ForMost
import HandS.ForExc
import HandS.Wide
import HandS.IsInst
import HandS.TryMany
import HandS.TupAny
import HandS.Style
import HandS.Small
import HandS.Conv
import HandS.Flow
import HandS.NoneIn
import HandS.EndBits
import HandS.ExcInit
import HandS.ExcField
import HandS.ExcIs
import KE.KExcIs
import KE.GoesMore
import KE.GoesEnum
import KE.KStateDown
import Lean
import HandS.Base
import HandS.Call
import HandS.Ends
import HandS.More
import HandS.Words
import HandS.WordsExc
import HandS.Defaults
import HandS.Head0
import HandS.Head1
import HandS.Head2
import HandS.HeadEnd
import HandS.HeadHook1
import HandS.HeadHook2
import HandS.Property
import KE.KDictSum
import KE.KDictCopyH
import KE.KDictWalk
import HandS.SortOrd
import HandS.SortRule
import HandS.DictTup
import HandS.TupLen
import OpenK.KOps
import OpenK.KMeth
import HandS.SortKw
import HandS.WideBits
import PySem.Challenge.RW_huewalks_k08_windows
set_option Elab.async false
set_option linter.all false
set_option maxRecDepth 100000
set_option maxHeartbeats 4000000
set_option exponentiation.threshold 20000
/-! Gx: value-level rules that serve several kinds at once, and the stepwise reading of a term. -/
namespace Gx
open PySem L2 PySem.Spec PyProof.Rows

/-! ### names of built-ins -/
theorem bt_len : bootBuiltins "len" = some (.builtin "len") := by decide +kernel
theorem bt_isinstance : bootBuiltins "isinstance" = some (.builtin "isinstance") := by decide +kernel
theorem bt_max : bootBuiltins "max" = some (.builtin "max") := by decide +kernel
theorem bt_min : bootBuiltins "min" = some (.builtin "min") := by decide +kernel
theorem bt_sorted : bootBuiltins "sorted" = some (.builtin "sorted") := by decide +kernel
theorem bt_int : bootBuiltins "int" = some (.type "int") := by decide +kernel
theorem bt_bool : bootBuiltins "bool" = some (.type "bool") := by decide +kernel
theorem bt_str : bootBuiltins "str" = some (.type "str") := by decide +kernel
theorem bt_list : bootBuiltins "list" = some (.type "list") := by decide +kernel
theorem bt_tuple : bootBuiltins "tuple" = some (.type "tuple") := by decide +kernel
theorem bt_dict : bootBuiltins "dict" = some (.type "dict") := by decide +kernel
theorem bt_VE : bootBuiltins "ValueError" = some (.type "ValueError") := by decide +kernel

/-! ### operators by values, several kinds -/
def rAddG (K : PySem.W.Frag) : R2 := fun x y H Q => rI0 (fun i j => .int (i + j)) x y H Q ∨ (∃ i j, x = .str i ∧ y = .str j ∧ i.length + j.length ≤ sizeLine ∧ Q (.str (i ++ j)) H) ∨ rCat x y H Q ∨ rCatA K x y H Q
theorem op_addG {X : Cx} : OpR X (binaryOp .Add) (rAddG X.K) := op_add.or (op_add_str.or (op_cat.or op_catA))
def rMulG : R2 := fun x y H Q => rI CMul (fun i j => .int (i * j)) x y H Q ∨ rRep x y H Q
theorem op_mulG {X : Cx} : OpR X (binaryOp .Mult) rMulG := op_mul.or op_rep
def rEqG (K : PySem.W.Frag) : R2 := fun x y H Q => rEq x y H Q ∨ rEqD K x y H Q
theorem op_eqG {X : Cx} (hu : X.A.units + 64 < cLine) : OpR X (compareOp .Eq) (rEqG X.K) := op_eq.or (op_eqD hu)
def rNeG (K : PySem.W.Frag) : R2 := fun x y H Q => rNe x y H Q ∨ rNeD K x y H Q
theorem op_neG {X : Cx} (hu : X.A.units + 64 < cLine) : OpR X (compareOp .NotEq) (rNeG X.K) := op_ne.or (op_neD hu)
def rSub' : R2 := rI0 fun i j => .int (i - j)
def rMod : R2 := rI (fun _ j => 0 < j) fun i j => .int (i % j)
theorem op_mod' {X : Cx} : OpR X (binaryOp .Mod) rMod := op_mod
def rDiv : R2 := rI CDivW fun i j => .int (i / j)
theorem op_div' {X : Cx} : OpR X (binaryOp .FloorDiv) rDiv := op_fdivW
def rPow : R2 := rI CPow fun i j => .int (i ^ j.toNat)
theorem op_pow' {X : Cx} : OpR X (binaryOp .Pow) rPow := op_pow

def rIsiG (K : PySem.W.Frag) : List V → Hp → VK → Prop := fun xs H Q => rIsi K xs H Q ∨ rIsiT K xs H Q
theorem call_isiG {X : Cx} : CallR X (.builtin "isinstance") (rIsiG X.K) := call_isi.or call_isiT
def rLenG (K : PySem.W.Frag) : List V → Hp → VK → Prop := fun xs H Q => ∃ x n, xs = [x] ∧ LenV K x H n ∧ Q (.int n) H
theorem call_lenG {X : Cx} : CallR X (.builtin "len") (rLenG X.K) := call_len
def rInt1 : List V → Hp → VK → Prop := fun xs H Q => (∃ i, xs = [.int i] ∧ Q (.int i) H) ∨ ∃ k, xs = [.bl k] ∧ Q (.int (if k then 1 else 0)) H
theorem call_int1' {X : Cx} : CallR X (.type "int") rInt1 := call_int1
def rListG (K : PySem.W.Frag) : List V → Hp → VK → Prop := fun xs H Q => ∃ p ys, xs = [.ref p] ∧ (SqL K H p ys ∨ SqT K H p ys) ∧ ∀ l, H l = none → Q (.ref l) (upd H l (.lst ys))
theorem call_listG {X : Cx} : CallR X (.type "list") (rListG X.K) := call_list_of
def rTupG (K : PySem.W.Frag) : List V → Hp → VK → Prop := fun xs H Q => ∃ p ys, xs = [.ref p] ∧ ((SqL K H p ys ∧ ∀ l, H l = none → Q (.ref l) (upd H l (.tup ys))) ∨ (SqT K H p ys ∧ Q (.ref p) H))
theorem call_tupG {X : Cx} : CallR X (.type "tuple") (rTupG X.K) := call_tuple_of
def rMax2' : List V → Hp → VK → Prop := fun xs H Q => ∃ i j, xs = [.int i, .int j] ∧ Q (.int (if j > i then j else i)) H
theorem call_max2' {X : Cx} (hc : X.calm = true) : CallR X (.builtin "max") rMax2' := call_max2 hc
def rMin2' : List V → Hp → VK → Prop := fun xs H Q => ∃ i j, xs = [.int i, .int j] ∧ Q (.int (if j < i then j else i)) H
theorem call_min2' {X : Cx} (hc : X.calm = true) : CallR X (.builtin "min") rMin2' := call_min2 hc

def rSlG (K : PySem.W.Frag) : V → Option Int → Option Int → Hp → VK → Prop := fun x lo hi H Q => rSlL K x lo hi H Q ∨ rSlA K x lo hi H Q
theorem sl_G {X : Cx} : SlR X (rSlG X.K) := sl_list.or sl_tupA

/-! ### the steps of a reading -/
section
variable {σ : L2.St} {H : Hp} {Q : VK} {i : Nat} {v x y : V} {ta tb tc te : TE} {t : TA} {tt uu : TT} {r : R2} {K : PySem.W.Frag}
theorem e_var (h : σ[i]? = some (some v)) (k : Q v H) : tVar i σ H Q := ⟨v, h, k⟩
theorem e_c (k : Q v H) : tC v σ H Q := k
theorem e_op (k : ta σ H fun x H1 => tb σ H1 fun y H2 => r x y H2 Q) : tOp r ta tb σ H Q := k
theorem e_un {r : V → Hp → VK → Prop} (k : ta σ H fun x H1 => r x H1 Q) : tUn r ta σ H Q := k
theorem e_nil {Q : List V → Hp → Prop} (k : Q [] H) : tNil σ H Q := k
theorem e_cons {tr : TA} {Q : List V → Hp → Prop} (k : ta σ H fun x H1 => tr σ H1 fun xs H2 => Q (x :: xs) H2) : tCons ta tr σ H Q := k
theorem e_call {sp : Sp} {E : XK} (k : t σ H fun vs H1 => sp vs H1 Q E) : tCall sp [] E t σ H Q := by
  unfold tCall
  simpa only [List.append_nil] using k
theorem e_callS {sp : Sp} {E : L2.St → XK} (k : t σ H fun vs H1 => sp vs H1 Q (E σ)) : tCallS sp E t σ H Q := k
theorem e_CB {r : List V → Hp → VK → Prop} (k : t σ H fun vs H1 => r vs H1 Q) : tCB r t σ H Q := k
theorem e_lst (k : t σ H fun xs H1 => xs.length ≤ sizeLine ∧ ∀ p, H1 p = none → Q (.ref p) (upd H1 p (.lst xs))) : tLst t σ H Q := k
theorem e_tup (k : t σ H fun xs H1 => xs.length ≤ sizeLine ∧ ∀ p, H1 p = none → Q (.ref p) (upd H1 p (.tup xs))) : tTup t σ H Q := k
theorem e_ifE (k : tt σ H fun c H1 => if c = true then ta σ H1 Q else tb σ H1 Q) : tIf tt ta tb σ H Q := k
theorem e_test {Q : Bool → Hp → Prop} (k : te σ H fun x H1 => ∃ b, x = .bl b ∧ Q b H1) : tTest te σ H Q := k
theorem e_B {Q : Bool → Hp → Prop} (k : te σ H fun x H1 => ∃ b, x = .bl b ∧ Q b H1) : tB te σ H Q := k
theorem e_bl {b : Bool} {R : Bool → Prop} (k : R b) : ∃ c, V.bl b = .bl c ∧ R c := ⟨b, rfl, k⟩
theorem e_not {Q : Bool → Hp → Prop} (k : tt σ H fun c H1 => Q (!c) H1) : tNot tt σ H Q := k
theorem e_and {Q : Bool → Hp → Prop} (k : tt σ H fun c H1 => if c = true then uu σ H1 Q else Q false H1) : tAnd tt uu σ H Q := k
theorem e_or {Q : Bool → Hp → Prop} (k : tt σ H fun c H1 => if c = true then Q true H1 else uu σ H1 Q) : tOr tt uu σ H Q := k
theorem e_andV (k : ta σ H fun x H1 => ∃ c, x = .bl c ∧ if c = true then tb σ H1 Q else Q (.bl false) H1) : tAndV ta tb σ H Q := k
theorem e_orV (k : ta σ H fun x H1 => ∃ c, x = .bl c ∧ if c = true then Q (.bl true) H1 else tb σ H1 Q) : tOrV ta tb σ H Q := k
theorem e_notV (k : ta σ H fun x H1 => ∃ c, x = .bl c ∧ Q (.bl (!c)) H1) : tNotV ta σ H Q := k
theorem e_chain {r r' : R2} (k : ta σ H fun x H1 => tb σ H1 fun y H2 => r x y H2 fun z H3 => ∃ k, z = .bl k ∧ if k = true then tc σ H3 fun w H4 => r' y w H4 Q else Q (.bl false) H3) : tChain r r' ta tb tc σ H Q := k
theorem e_BM {T : String} {r : V → List V → Hp → VK → Prop} (k : te σ H fun x H1 => tyV K T x H1 ∧ t σ H1 fun xs H2 => r x xs H2 Q) : tBM K T r te t σ H Q := k
theorem e_BM0 {T : String} {r : V → List V → Hp → VK → Prop} (k : te σ H fun x H1 => tyV K T x H1 ∧ r x [] H1 Q) : tBM0 K T r te σ H Q := k
theorem e_sl {r : V → Option Int → Option Int → Hp → VK → Prop} {tl th : TO} (k : te σ H fun x H1 => tl σ H1 fun l H2 => th σ H2 fun u H3 => r x l u H3 Q) : tSl r te tl th σ H Q := k
theorem e_nopart {Q : Option Int → Hp → Prop} (k : Q none H) : tNoPart σ H Q := k
theorem e_part {Q : Option Int → Hp → Prop} (k : te σ H fun x H1 => ∃ i, x = .int i ∧ Q (some i) H1) : tPart te σ H Q := k
theorem e_int {i : Int} {R : Int → Prop} (k : R i) : ∃ j, V.int i = .int j ∧ R j := ⟨i, rfl, k⟩
/- by values -/
theorem r_I0 {g : Int → Int → V} {i j : Int} (k : Q (g i j) H) : rI0 g (.int i) (.int j) H Q := ⟨i, j, rfl, rfl, k⟩
theorem r_I {C : Int → Int → Prop} {g : Int → Int → V} {i j : Int} (c : C i j) (k : Q (g i j) H) : rI C g (.int i) (.int j) H Q := ⟨i, j, rfl, rfl, c, k⟩
theorem r_sub {i j : Int} (k : Q (.int (i - j)) H) : rSub' (.int i) (.int j) H Q := ⟨i, j, rfl, rfl, k⟩
theorem r_addI {i j : Int} (k : Q (.int (i + j)) H) : rAddG K (.int i) (.int j) H Q := .inl ⟨i, j, rfl, rfl, k⟩
theorem r_addS {a b : Str} (h : a.length + b.length ≤ sizeLine) (k : Q (.str (a ++ b)) H) : rAddG K (.str a) (.str b) H Q := .inr (.inl ⟨a, b, rfl, rfl, h, k⟩)
theorem r_addL {a b : Addr} {xs ys : List V} (ha : H a = some (.lst xs)) (hb : H b = some (.lst ys)) (h : xs.length + ys.length ≤ sizeLine) (k : ∀ p, H p = none → Q (.ref p) (upd H p (.lst (xs ++ ys)))) : rAddG K (.ref a) (.ref b) H Q := .inr (.inr (.inl ⟨a, b, xs, ys, rfl, rfl, ha, hb, h, k⟩))
theorem r_mulI {i j : Int} (c : CMul i j) (k : Q (.int (i * j)) H) : rMulG (.int i) (.int j) H Q := .inl ⟨i, j, rfl, rfl, c, k⟩
theorem r_mod {i j : Int} (c : 0 < j) (k : Q (.int (i % j)) H) : rMod (.int i) (.int j) H Q := ⟨i, j, rfl, rfl, c, k⟩
theorem r_div {i j : Int} (c : CDivW i j) (k : Q (.int (i / j)) H) : rDiv (.int i) (.int j) H Q := ⟨i, j, rfl, rfl, c, k⟩
theorem r_pow {i j : Int} (c : CPow i j) (k : Q (.int (i ^ j.toNat)) H) : rPow (.int i) (.int j) H Q := ⟨i, j, rfl, rfl, c, k⟩
theorem r_eqS (h : scal x y = true) (k : Q (.bl (decide (x = y))) H) : rEqG K x y H Q := .inl ⟨h, k⟩
theorem r_neS (h : scal x y = true) (k : Q (.bl (!decide (x = y))) H) : rNeG K x y H Q := .inl ⟨h, k⟩
theorem r_eqD {d e : PyData} (hx : Dp K H x d) (hy : Dp K H y e) (h1 : SeqAt.shaped d = true) (h2 : SeqAt.shaped e = true) (k : Q (.bl (PyData.eqv d e)) H) : rEqG K x y H Q := .inr ⟨d, e, hx, hy, h1, h2, k⟩
theorem r_isi {t u : Value} {c : V} {b : Bool} (hc : ClsV c u) (ht : TyX K H x t) (hk : PySem.W.kitOne K t u = some b) (k : Q (.bl b) H) : rIsiG K [x, c] H Q := .inl ⟨x, c, t, u, b, rfl, hc, ht, hk, k⟩
theorem r_len {n : Nat} (h : LenV K x H n) (k : Q (.int n) H) : rLenG K [x] H Q := ⟨x, n, rfl, h, k⟩
theorem e_disp {xs : List V} {R : Addr → Prop} (h : xs.length ≤ sizeLine) (k : ∀ p, H p = none → R p) : xs.length ≤ sizeLine ∧ ∀ p, H p = none → R p := ⟨h, k⟩
theorem r_lenL {p : Addr} {xs : List V} (h : H p = some (.lst xs)) (k : Q (.int (xs.length : Int)) H) : rLenG K [.ref p] H Q := ⟨_, _, rfl, .inl ⟨xs, SqL.of h, rfl⟩, k⟩
theorem r_lenT {p : Addr} {xs : List V} (h : H p = some (.tup xs)) (k : Q (.int (xs.length : Int)) H) : rLenG K [.ref p] H Q := ⟨_, _, rfl, .inr ⟨xs, SqT.of h, rfl⟩, k⟩
theorem r_ixL' {p : Addr} {xs : List V} {i : Int} (h : H p = some (.lst xs)) (ha : atI xs i = some v) (k : Q v H) : rIx K (.ref p) (.int i) H Q := .inl ⟨p, xs, i, v, rfl, rfl, SqL.of h, ha, k⟩
theorem r_ixT' {p : Addr} {xs : List V} {i : Int} (h : H p = some (.tup xs)) (ha : atI xs i = some v) (k : Q v H) : rIx K (.ref p) (.int i) H Q := .inr (.inl ⟨p, xs, i, v, rfl, rfl, SqT.of h, ha, k⟩)
theorem r_int {i : Int} (k : Q (.int i) H) : rInt1 [.int i] H Q := .inl ⟨i, rfl, k⟩
theorem r_ixL {p : Addr} {xs : List V} {i : Int} (h : SqL K H p xs) (ha : atI xs i = some v) (k : Q v H) : rIx K (.ref p) (.int i) H Q := .inl ⟨p, xs, i, v, rfl, rfl, h, ha, k⟩
theorem r_ixT {p : Addr} {xs : List V} {i : Int} (h : SqT K H p xs) (ha : atI xs i = some v) (k : Q v H) : rIx K (.ref p) (.int i) H Q := .inr (.inl ⟨p, xs, i, v, rfl, rfl, h, ha, k⟩)
theorem r_setL {p : Addr} {xs : List V} {i : Int} {j : Nat} {w : V} {Q : Hp → Prop} (h : H p = some (.lst xs)) (hi : ixN xs.length i = some j) (k : Q (upd H p (.lst (xs.set j w)))) : rSetL (.ref p) (.int i) w H Q := ⟨p, xs, i, j, rfl, rfl, h, hi, k⟩
theorem r_max {i j : Int} (k : Q (.int (if j > i then j else i)) H) : rMax2' [.int i, .int j] H Q := ⟨i, j, rfl, k⟩
theorem r_min {i j : Int} (k : Q (.int (if j < i then j else i)) H) : rMin2' [.int i, .int j] H Q := ⟨i, j, rfl, k⟩
theorem r_append {l : Addr} {xs : List V} {y : V} (h : H l = some (.lst xs)) (hl : xs.length < sizeLine) (k : Q .non (upd H l (.lst (xs ++ [y])))) : rAppend (.ref l) [y] H Q := ⟨l, xs, y, rfl, rfl, h, hl, k⟩
theorem r_listL {p : Addr} {ys : List V} (h : SqL K H p ys) (k : ∀ l, H l = none → Q (.ref l) (upd H l (.lst ys))) : rListG K [.ref p] H Q := ⟨p, ys, rfl, .inl h, k⟩
theorem r_listT {p : Addr} {ys : List V} (h : SqT K H p ys) (k : ∀ l, H l = none → Q (.ref l) (upd H l (.lst ys))) : rListG K [.ref p] H Q := ⟨p, ys, rfl, .inr h, k⟩
theorem r_tupL {p : Addr} {ys : List V} (h : SqL K H p ys) (k : ∀ l, H l = none → Q (.ref l) (upd H l (.tup ys))) : rTupG K [.ref p] H Q := ⟨p, ys, rfl, .inl ⟨h, k⟩⟩
theorem r_tupT {p : Addr} {ys : List V} (h : SqT K H p ys) (k : Q (.ref p) H) : rTupG K [.ref p] H Q := ⟨p, ys, rfl, .inr ⟨h, k⟩⟩
end
/-! ### statements; the ends written out -/
section
variable {σ : L2.St} {H : Hp} {n b c : L2.St → Hp → Prop} {rt : VK} {t u : TS} {te : TE} {tt : TT} {i : Nat}
theorem s_seq (k : t ⟨u ⟨n, rt, b, c⟩, rt, b, c⟩ σ H) : tSeq t u ⟨n, rt, b, c⟩ σ H := k
theorem s_next (k : n σ H) : tNext ⟨n, rt, b, c⟩ σ H := k
theorem s_brk (k : b σ H) : tBreak ⟨n, rt, b, c⟩ σ H := k
theorem s_cont (k : c σ H) : tCont ⟨n, rt, b, c⟩ σ H := k
theorem s_ret (k : te σ H rt) : tRet te ⟨n, rt, b, c⟩ σ H := k
theorem s_drop (k : te σ H fun _ H1 => n σ H1) : tDrop te ⟨n, rt, b, c⟩ σ H := k
theorem s_if (k : tt σ H fun x H1 => if x = true then t ⟨n, rt, b, c⟩ σ H1 else u ⟨n, rt, b, c⟩ σ H1) : tIfS tt t u ⟨n, rt, b, c⟩ σ H := k
theorem s_asg {g : TG} (k : te σ H fun x H1 => g x σ H1 n) : tAsg te g ⟨n, rt, b, c⟩ σ H := k
theorem g_name {v : V} {Q : L2.St → Hp → Prop} (k : Q (σ.set i (some v)) H) : gName i v σ H Q := k
theorem g_sub {to ti : TE} {ts : TSet} {v : V} {Q : L2.St → Hp → Prop} (k : to σ H fun o H1 => ti σ H1 fun j H2 => ts o j v H2 fun H3 => Q σ H3) : gSub to ti ts v σ H Q := k
end
/-! ### tests -/
theorem if_t {b : Bool} {A B : Prop} (h : b = true) (k : A) : if b = true then A else B := by
  rw [if_pos h]; exact k
theorem if_f {b : Bool} {A B : Prop} (h : b = false) (k : B) : if b = true then A else B := by
  rw [if_neg (by rw [h]; exact Bool.false_ne_true)]; exact k
theorem if_d {p : Prop} [Decidable p] {A B : Prop} (h1 : p → A) (h2 : ¬ p → B) : if decide p = true then A else B := by
  by_cases h : p
  · rw [if_pos (decide_eq_true h)]; exact h1 h
  · rw [if_neg (by rw [decide_eq_false h]; exact Bool.false_ne_true)]; exact h2 h
theorem if_nd {p : Prop} [Decidable p] {A B : Prop} (h1 : ¬ p → A) (h2 : p → B) : if (!decide p) = true then A else B := by
  by_cases h : p
  · rw [if_neg (by rw [decide_eq_true h]; exact Bool.false_ne_true)]; exact h2 h
  · rw [if_pos (by rw [decide_eq_false h]; rfl)]; exact h1 h
theorem if_dt {p : Prop} [Decidable p] {A B : Prop} (h : p) (k : A) : if decide p = true then A else B := if_t (decide_eq_true h) k
theorem if_df {p : Prop} [Decidable p] {A B : Prop} (h : ¬ p) (k : B) : if decide p = true then A else B := if_f (decide_eq_false h) k

/-! ### loops -/
section
variable {σ : L2.St} {H : Hp} {nn b c : L2.St → Hp → Prop} {rt : VK} {g : TG} {tb : TS} {K : PySem.W.Frag} {te : TE} {ta : TA}
theorem s_for {wi : TI} (k : wi σ H fun J H1 => ∃ W : Nat → Nat → L2.St → Hp → Prop, (∃ m, W 0 m σ H1) ∧ ∀ i m σ H, W i m σ H →
    (J.stop i H ∧ nn σ H) ∨ (J.go i H ∧ ∃ N : L2.St → Hp → Prop, (∀ σ' H', N σ' H' → ∃ m', m' < m ∧ W (i + 1) m' σ' H') ∧ ∀ x H', J.yld i H x H' → g x σ H' fun σ2 H2 => tb ⟨N, rt, nn, N⟩ σ2 H2)) : tFor wi g tb ⟨nn, rt, b, c⟩ σ H := k
theorem i_rng1 {R : It → Hp → Prop} (k : ta σ H fun vs H1 => ∃ j : Int, vs = [.int j] ∧ -(2 ^ 62) ≤ j ∧ j < 2 ^ 62 ∧ R (Itr 0 j.toNat) H1) : iRng1 ta σ H R := k
theorem i_rng1' {R : Int → Prop} {j : Int} (h : -(2 ^ 62) ≤ j ∧ j < 2 ^ 62) (k : R j) : ∃ j' : Int, [V.int j] = [V.int j'] ∧ -(2 ^ 62) ≤ j' ∧ j' < 2 ^ 62 ∧ R j' := ⟨j, rfl, h.1, h.2, k⟩
theorem i_rng2 {R : It → Hp → Prop} (k : ta σ H fun vs H1 => ∃ i j : Int, vs = [.int i, .int j] ∧ (-(2 ^ 62) ≤ i ∧ i < 2 ^ 62 ∧ -(2 ^ 62) ≤ j ∧ j < 2 ^ 62) ∧ R (Itr i (j - i).toNat) H1) : iRng2 ta σ H R := k
theorem i_rng2' {R : Int → Int → Prop} {i j : Int} (h : -(2 ^ 62) ≤ i ∧ i < 2 ^ 62 ∧ -(2 ^ 62) ≤ j ∧ j < 2 ^ 62) (k : R i j) : ∃ i' j' : Int, [V.int i, V.int j] = [V.int i', V.int j'] ∧ (-(2 ^ 62) ≤ i' ∧ i' < 2 ^ 62 ∧ -(2 ^ 62) ≤ j' ∧ j' < 2 ^ 62) ∧ R i' j' := ⟨i, j, rfl, h, k⟩
theorem i_list {R : It → Hp → Prop} (k : te σ H fun x H1 => ∃ a, x = .ref a ∧ (∃ xs, SqL K H1 a xs) ∧ R (Itl K a) H1) : iList K te σ H R := k
theorem i_list' {p : Addr} {xs : List V} {R : Addr → Prop} (h : SqL K H p xs) (k : R p) : ∃ a, V.ref p = .ref a ∧ (∃ xs, SqL K H a xs) ∧ R a := ⟨p, rfl, ⟨xs, h⟩, k⟩
theorem i_tup {R : It → Hp → Prop} (k : te σ H fun x H1 => ∃ a, x = .ref a ∧ (∃ xs, SqT K H1 a xs) ∧ R (Itt K a) H1) : iTup K te σ H R := k
theorem i_tup' {p : Addr} {xs : List V} {R : Addr → Prop} (h : SqT K H p xs) (k : R p) : ∃ a, V.ref p = .ref a ∧ (∃ xs, SqT K H a xs) ∧ R a := ⟨p, rfl, ⟨xs, h⟩, k⟩
theorem f_range {lo : Int} {n : Nat} (Pv : Nat → L2.St → Hp → Prop) (h0 : Pv 0 σ H)
    (hs : ∀ i σ H, i < n → Pv i σ H → g (.int (lo + i)) σ H fun σ2 H2 => tb ⟨Pv (i + 1), rt, nn, Pv (i + 1)⟩ σ2 H2) (hd : ∀ σ H, Pv n σ H → nn σ H) :
    ∃ W : Nat → Nat → L2.St → Hp → Prop, (∃ m, W 0 m σ H) ∧ ∀ i m σ H, W i m σ H →
      ((Itr lo n).stop i H ∧ nn σ H) ∨ ((Itr lo n).go i H ∧ ∃ N : L2.St → Hp → Prop, (∀ σ' H', N σ' H' → ∃ m', m' < m ∧ W (i + 1) m' σ' H') ∧ ∀ x H', (Itr lo n).yld i H x H' → g x σ H' fun σ2 H2 => tb ⟨N, rt, nn, N⟩ σ2 H2) :=
  for_range (D := ⟨nn, rt, fun _ _ => False, fun _ _ => False⟩) Pv h0 hs hd
theorem f_list {p : Addr} {xs : List V} (Pv : Nat → L2.St → Hp → Prop) (h0 : Pv 0 σ H) (hl : ∀ i σ H, i ≤ xs.length → Pv i σ H → SqL K H p xs)
    (hs : ∀ i x σ H, xs[i]? = some x → Pv i σ H → g x σ H fun σ2 H2 => tb ⟨Pv (i + 1), rt, nn, Pv (i + 1)⟩ σ2 H2) (hd : ∀ σ H, Pv xs.length σ H → nn σ H) :
    ∃ W : Nat → Nat → L2.St → Hp → Prop, (∃ m, W 0 m σ H) ∧ ∀ i m σ H, W i m σ H →
      ((Itl K p).stop i H ∧ nn σ H) ∨ ((Itl K p).go i H ∧ ∃ N : L2.St → Hp → Prop, (∀ σ' H', N σ' H' → ∃ m', m' < m ∧ W (i + 1) m' σ' H') ∧ ∀ x H', (Itl K p).yld i H x H' → g x σ H' fun σ2 H2 => tb ⟨N, rt, nn, N⟩ σ2 H2) :=
  for_list (D := ⟨nn, rt, fun _ _ => False, fun _ _ => False⟩) Pv h0 hl hs hd
theorem f_tup {p : Addr} {xs : List V} (Pv : Nat → L2.St → Hp → Prop) (h0 : Pv 0 σ H) (hl : ∀ i σ H, i ≤ xs.length → Pv i σ H → SqT K H p xs)
    (hs : ∀ i x σ H, xs[i]? = some x → Pv i σ H → g x σ H fun σ2 H2 => tb ⟨Pv (i + 1), rt, nn, Pv (i + 1)⟩ σ2 H2) (hd : ∀ σ H, Pv xs.length σ H → nn σ H) :
    ∃ W : Nat → Nat → L2.St → Hp → Prop, (∃ m, W 0 m σ H) ∧ ∀ i m σ H, W i m σ H →
      ((Itt K p).stop i H ∧ nn σ H) ∨ ((Itt K p).go i H ∧ ∃ N : L2.St → Hp → Prop, (∀ σ' H', N σ' H' → ∃ m', m' < m ∧ W (i + 1) m' σ' H') ∧ ∀ x H', (Itt K p).yld i H x H' → g x σ H' fun σ2 H2 => tb ⟨N, rt, nn, N⟩ σ2 H2) :=
  for_tup (D := ⟨nn, rt, fun _ _ => False, fun _ _ => False⟩) Pv h0 hl hs hd
/- comprehensions -/
theorem e_lc {wi : TI} {tt : TT} {vs : List Nat} {Q : VK} (k : wi σ H fun J H1 => ∀ D, H1 D = none → ∃ W : Nat → Nat → Hp → Prop, (∃ m, W 0 m (upd H1 D (.lst []))) ∧ ∀ i m H, W i m H →
  (J.stop i H ∧ Q (.ref D) H) ∨ (J.go i H ∧ ∃ Nx : Hp → Prop, (∀ H', Nx H' → ∃ m', m' < m ∧ W (i + 1) m' H') ∧ ∀ x H', J.yld i H x H' → g x (wipe σ vs) H' fun σ2 H2 => wipe σ2 vs = wipe σ vs ∧ tt σ2 H2 fun b H3 =>
    if b = true then te σ2 H3 fun y H4 => ∃ acc, H4 D = some (.lst acc) ∧ acc.length < sizeLine ∧ Nx (upd H4 D (.lst (acc ++ [y]))) else Nx H3)) : tLc wi g tt te vs σ H Q := k
theorem e_yes {Q : Bool → Hp → Prop} (k : Q true H) : tYes σ H Q := k
end
end Gx

set_option Elab.async false
set_option linter.all false
set_option maxRecDepth 100000
set_option maxHeartbeats 4000000
/-! Gd: list(d.keys()), list(d.values()); walks over a list or a tuple. -/
namespace Gx
open PySem L2 PySem.Spec PyProof.Rows
section
variable {X : Cx} {e : Expr} {te : TE} {p apos cpos pos : Pos}
def rLK : V → Hp → VK → Prop := fun x H Q => ∃ (d : Addr) (kvs : List (Key × V)), x = .ref d ∧ H d = some (.dK kvs) ∧ ∀ q, H q = none → Q (.ref q) (upd H q (.lst (kvs.map fun kv => kV kv.1)))
def rLV : V → Hp → VK → Prop := fun x H Q => ∃ (d : Addr) (kvs : List (Key × V)), x = .ref d ∧ H d = some (.dK kvs) ∧ ∀ q, H q = none → Q (.ref q) (upd H q (.lst (kvs.map fun kv => kv.2)))
theorem pe_listKeys (hc : X.calm = true) (he : PE X e te) (hm : X.mg "list" = none) (hg : Gl X "list" := by rfl) (hv : bootBuiltins "list" = some (.type "list") := bt_list) (hbase : attributeBase e "keys" X.env (eval e X.env) = eval e X.env := by rfl) (hline : (apos.endLine == cpos.line) = true := by rfl)
    (hs : starEach [.Call (.Attribute e "keys" apos) [] [] cpos] X.env = (false, eval (.Call (.Attribute e "keys" apos) [] [] cpos) X.env) :: starEach [] X.env := by rfl) :
    PE X (.Call (.Name "list" p) [.Call (.Attribute e "keys" apos) [] [] cpos] [] pos) (tUn rLK te) := by
  refine ⟨fun pins s σ H Q I hq => ?_⟩
  refine wpAny_Call_Name_kw (ld_blt I hg hm hv ?_)
  refine PyProof.Rows.callWith_type1 ?_ hs rfl
  rw [hs]
  show wpAny _ _ (spliced ((false, eval (.Call (.Attribute e "keys" apos) [] [] cpos) X.env) :: backTo pos (starEach [] X.env))) _ _ s
  refine Calls.spliced_cons ?_
  refine wpAny_Call_method (T := "dict") (id := "dict.keys") hbase rfl hline F.plainAttrs_dict F.slot_dict_keys F.type_dict_keys (thn (he.run pins s σ H _ I hq) fun u s1 ⟨x, H1, I1, rx, d, kvs, ex, hd, q⟩ => ?_)
  subst ex
  obtain rfl : u = Value.ref d := rx
  obtain ⟨hz, hs0, vs, kv, hdo⟩ := I1.hok d _ hd
  obtain ⟨ep, hat⟩ := hdo.dictAt
  have lk : kvs.length = vs.length := Paired.length kv
  have I2 : Inv X pins σ H1 { s1 with heap := s1.heap.push { cls := .type "dict_keys", data := .fields #[.ref d] } } := I1.kept (t' := s1.toks) fun b ob q => Heap.get?_push_of_some _ q
  refine ⟨hdo.typeIs, hdo.mapOf.noDict, ?_⟩
  show wpAny _ _ (callWith cpos (.builtin "dict.keys") [.ref d] [] []) _ X.xe s1
  refine method_meetsIn F.slot_dict_keys F.entry_dict_keys rfl (PySem.evalArgs_none ⟨rfl, hdo.typeIs, F.args_dict_keys_1 _, _, PySem.W.kdl_meets_keys (mixKind X.prog X.w) d hs0, ⟨vs, hdo⟩, ?_⟩)
  refine Calls.spliced_nil ?_
  refine PySem.W.kdl_call (PySem.W.kdl_keys (knd := mixKind X.prog X.w) (kvs := vs) (ep := ep)) (I1.ok.hd hc) ⟨⟨_, Heap.get?_push_size _ rfl, rfl, rfl⟩, hat.push _⟩ (by rw [← lk]; exact hz) fun h' tk acc' c' hkeep hS hacc => ?_
  refine ⟨.ref _, upd H1 _ (.lst (kvs.map fun kv => kV kv.1)), I2.laid hkeep (Nat.le_refl _) (show ObjOk X.prog X.w _ _ _ (.lst (kvs.map fun kv => kV kv.1)) from ⟨?_, acc'.toList, c', ?_, ?_⟩), rfl, q _ (I2.hok.fresh (Nat.le_refl _))⟩
  · rw [List.length_map]; exact hz
  · have el : acc'.toList.length = acc'.size := by simp
    refine vals_of_at (by rw [List.length_map, el, hacc.1, lk]) fun j x w h1 h2 => ?_
    obtain ⟨k, y, hky, hi⟩ := hacc.2 j w (by rw [← Array.getElem?_toList]; exact h2)
    have e1 : (kvs.map (·.1))[j]? = some k := by
      rw [KV.keys kv, List.getElem?_map, hky] <;> rfl
    have e2 : (kvs.map fun kv => kV kv.1)[j]? = some (kV k) := by
      have e3 : (kvs.map fun kv => kV kv.1) = (kvs.map (·.1)).map kV := by rw [List.map_map] <;> rfl
      rw [e3, List.getElem?_map, e1] <;> rfl
    rw [e2] at h1
    cases h1
    exact keyIs_rel hi
  · rw [Array.toArray_toList]; exact hS
theorem kv_at {κ : Type} : ∀ {kvs : List (κ × V)} {vs : List (κ × Value)}, KV kvs vs → ∀ {j : Nat} {k : κ} {u : Value}, vs[j]? = some (k, u) → ∃ y, (kvs.map (·.2))[j]? = some y ∧ RelV y u
  | _, _, .nil, j, k, u, h => by simp at h
  | _, _, .cons (a := x) r t, 0, k, u, h => by
    have e := Option.some.inj h
    refine ⟨x.2, rfl, ?_⟩
    have := r.2
    rw [e] at this
    exact this
  | _, _, .cons r t, j + 1, k, u, h => kv_at t (j := j) h
theorem pe_listValues (hc : X.calm = true) (he : PE X e te) (hm : X.mg "list" = none) (hg : Gl X "list" := by rfl) (hv : bootBuiltins "list" = some (.type "list") := bt_list) (hbase : attributeBase e "values" X.env (eval e X.env) = eval e X.env := by rfl) (hline : (apos.endLine == cpos.line) = true := by rfl)
    (hs : starEach [.Call (.Attribute e "values" apos) [] [] cpos] X.env = (false, eval (.Call (.Attribute e "values" apos) [] [] cpos) X.env) :: starEach [] X.env := by rfl) :
    PE X (.Call (.Name "list" p) [.Call (.Attribute e "values" apos) [] [] cpos] [] pos) (tUn rLV te) := by
  refine ⟨fun pins s σ H Q I hq => ?_⟩
  refine wpAny_Call_Name_kw (ld_blt I hg hm hv ?_)
  refine PyProof.Rows.callWith_type1 ?_ hs rfl
  rw [hs]
  show wpAny _ _ (spliced ((false, eval (.Call (.Attribute e "values" apos) [] [] cpos) X.env) :: backTo pos (starEach [] X.env))) _ _ s
  refine Calls.spliced_cons ?_
  refine wpAny_Call_method (T := "dict") (id := "dict.values") hbase rfl hline F.plainAttrs_dict F.slot_dict_values F.type_dict_values (thn (he.run pins s σ H _ I hq) fun u s1 ⟨x, H1, I1, rx, d, kvs, ex, hd, q⟩ => ?_)
  subst ex
  obtain rfl : u = Value.ref d := rx
  obtain ⟨hz, hs0, vs, kv, hdo⟩ := I1.hok d _ hd
  obtain ⟨ep, hat⟩ := hdo.dictAt
  have lk : kvs.length = vs.length := Paired.length kv
  have I2 : Inv X pins σ H1 { s1 with heap := s1.heap.push { cls := .type "dict_values", data := .fields #[.ref d] } } := I1.kept (t' := s1.toks) fun b ob q => Heap.get?_push_of_some _ q
  refine ⟨hdo.typeIs, hdo.mapOf.noDict, ?_⟩
  show wpAny _ _ (callWith cpos (.builtin "dict.values") [.ref d] [] []) _ X.xe s1
  refine method_meetsIn F.slot_dict_values F.entry_dict_values rfl (PySem.evalArgs_none ⟨rfl, hdo.typeIs, F.args_dict_values_1 _, _, meets_dict_values (mixKind X.prog X.w) d hs0, ⟨vs, hdo⟩, ?_⟩)
  refine Calls.spliced_nil ?_
  refine PySem.W.kdl_call (PySem.W.kdl_values (knd := mixKind X.prog X.w) (kvs := vs) (ep := ep)) (I1.ok.hd hc) ⟨⟨_, Heap.get?_push_size _ rfl, rfl, rfl⟩, hat.push _⟩ (by rw [← lk]; exact hz) fun h' tk acc' c' hkeep hS hacc => ?_
  refine ⟨.ref _, upd H1 _ (.lst (kvs.map fun kv => kv.2)), I2.laid hkeep (Nat.le_refl _) (show ObjOk X.prog X.w _ _ _ (.lst (kvs.map fun kv => kv.2)) from ⟨?_, acc'.toList, c', ?_, ?_⟩), rfl, q _ (I2.hok.fresh (Nat.le_refl _))⟩
  · rw [List.length_map]; exact hz
  · have el : acc'.toList.length = acc'.size := by simp
    refine vals_of_at (by rw [List.length_map, el, hacc.1, lk]) fun j x w h1 h2 => ?_
    obtain ⟨k, hky⟩ := hacc.2 j w (by rw [← Array.getElem?_toList]; exact h2)
    obtain ⟨y, e1, e2⟩ := kv_at kv hky
    rw [e1] at h1
    cases h1
    exact e2
  · rw [Array.toArray_toList]; exact hS
theorem e_lk {σ : L2.St} {H : Hp} {Q : VK} {d : Addr} {kvs : List (Key × V)} (h : H d = some (.dK kvs)) (k : ∀ q, H q = none → Q (.ref q) (upd H q (.lst (kvs.map fun kv => kV kv.1)))) : rLK (.ref d) H Q := ⟨d, kvs, rfl, h, k⟩
theorem e_lv {σ : L2.St} {H : Hp} {Q : VK} {d : Addr} {kvs : List (Key × V)} (h : H d = some (.dK kvs)) (k : ∀ q, H q = none → Q (.ref q) (upd H q (.lst (kvs.map fun kv => kv.2)))) : rLV (.ref d) H Q := ⟨d, kvs, rfl, h, k⟩
end
def iOr (w1 w2 : TI) : TI := fun σ H R => w1 σ H R ∨ w2 σ H R
theorem pi_or {X : Cx} {tg e : Expr} {w1 w2 : TI} (h1 : PI X tg e w1) (h2 : PI X tg e w2) : PI X tg e (iOr w1 w2) := ⟨fun pins s σ H R I h => h.elim (fun q => h1.run pins s σ H R I q) fun q => h2.run pins s σ H R I q⟩

/-! ### values, deep -/
/-- what a value is, seen through the heap -/
inductive D where
  | non | bl (b : Bool) | int (i : Int) | str (s : Str) | lst (xs : List D) | tup (xs : List D) | dic (kvs : List (Key × D))
mutual
def Dv (H : Hp) : V → D → Prop
  | v, .non => v = .non
  | v, .bl b => v = .bl b
  | v, .int i => v = .int i
  | v, .str s => v = .str s
  | v, .lst ds => ∃ p vs, v = .ref p ∧ H p = some (.lst vs) ∧ vs.length ≤ sizeLine ∧ DvL H vs ds
  | v, .tup ds => ∃ p vs, v = .ref p ∧ H p = some (.tup vs) ∧ vs.length ≤ sizeLine ∧ DvL H vs ds
  | v, .dic ps => ∃ p kvs, v = .ref p ∧ H p = some (.dK kvs) ∧ kvs.length ≤ sizeLine ∧ DvK H kvs ps
def DvL (H : Hp) : List V → List D → Prop
  | vs, [] => vs = []
  | vs, d :: ds => ∃ v r, vs = v :: r ∧ Dv H v d ∧ DvL H r ds
def DvK (H : Hp) : List (Key × V) → List (Key × D) → Prop
  | ks, [] => ks = []
  | ks, (k, d) :: ps => ∃ v r, ks = (k, v) :: r ∧ Dv H v d ∧ DvK H r ps
end
mutual
theorem Dv.mono {H H' : Hp} (h : Same H H') : ∀ {d : D} {v : V}, Dv H v d → Dv H' v d
  | .non, _, q => q
  | .bl _, _, q => q
  | .int _, _, q => q
  | .str _, _, q => q
  | .lst ds, _, ⟨p, vs, e, hp, hl, q⟩ => ⟨p, vs, e, h _ _ hp, hl, DvL.mono h q⟩
  | .tup ds, _, ⟨p, vs, e, hp, hl, q⟩ => ⟨p, vs, e, h _ _ hp, hl, DvL.mono h q⟩
  | .dic ps, _, ⟨p, vs, e, hp, hl, q⟩ => ⟨p, vs, e, h _ _ hp, hl, DvK.mono h q⟩
theorem DvL.mono {H H' : Hp} (h : Same H H') : ∀ {ds : List D} {vs : List V}, DvL H vs ds → DvL H' vs ds
  | [], _, q => q
  | d :: ds, _, ⟨v, r, e, q, t⟩ => ⟨v, r, e, Dv.mono h q, DvL.mono h t⟩
theorem DvK.mono {H H' : Hp} (h : Same H H') : ∀ {ps : List (Key × D)} {ks : List (Key × V)}, DvK H ks ps → DvK H' ks ps
  | [], _, q => q
  | (k, d) :: ps, _, ⟨v, r, e, q, t⟩ => ⟨v, r, e, Dv.mono h q, DvK.mono h t⟩
end
theorem DvL.length {H : Hp} : ∀ {ds : List D} {vs : List V}, DvL H vs ds → vs.length = ds.length
  | [], vs, q => by
    rw [show vs = [] from q]
    rfl
  | d :: ds, _, ⟨v, r, e, q, t⟩ => by rw [e, List.length_cons, List.length_cons, DvL.length t]
theorem DvL.get {H : Hp} : ∀ {ds : List D} {vs : List V} {i : Nat} {d : D}, DvL H vs ds → ds[i]? = some d → ∃ v, vs[i]? = some v ∧ Dv H v d
  | [], _, i, d, _, h => by simp at h
  | x :: ds, _, 0, d, ⟨v, r, e, q, t⟩, h => by
    have := Option.some.inj h
    subst this
    exact ⟨v, by rw [e]; rfl, q⟩
  | x :: ds, _, i + 1, d, ⟨v, r, e, q, t⟩, h => by
    obtain ⟨y, h1, h2⟩ := DvL.get t (i := i) (d := d) (by simpa using h)
    exact ⟨y, by rw [e]; simpa using h1, h2⟩
theorem DvL.append {H : Hp} : ∀ {ds es : List D} {vs ws : List V}, DvL H vs ds → DvL H ws es → DvL H (vs ++ ws) (ds ++ es)
  | [], es, vs, ws, q, z => by
    rw [show vs = [] from q]
    exact z
  | d :: ds, es, _, ws, ⟨v, r, e, q, t⟩, z => ⟨v, r ++ ws, by rw [e]; rfl, q, DvL.append t z⟩
/-- how deep -/
def D.depth : D → Nat
  | .lst ds => 1 + go ds
  | .tup ds => 1 + go ds
  | .dic ps => 2 + goK ps
  | _ => 0
where
  go : List D → Nat
    | [] => 0
    | d :: ds => max d.depth (go ds)
  goK : List (Key × D) → Nat
    | [] => 0
    | (_, d) :: ps => max d.depth (goK ps)
theorem depth_get : ∀ {ds : List D} {i : Nat} {d : D}, ds[i]? = some d → d.depth ≤ D.depth.go ds
  | [], i, d, h => by simp at h
  | x :: ds, 0, d, h => by
    have := Option.some.inj h
    subst this
    exact Nat.le_max_left _ _
  | x :: ds, i + 1, d, h => Nat.le_trans (depth_get (i := i) (by simpa using h)) (Nat.le_max_right _ _)
def kD : Key → D
  | .inl i => .int i
  | .inr s => .str s
theorem DvK.keys {H : Hp} : ∀ {ps : List (Key × D)} {ks : List (Key × V)}, DvK H ks ps → DvL H (ks.map fun kv => kV kv.1) (ps.map fun kd => kD kd.1)
  | [], ks, q => by rw [show ks = [] from q]; rfl
  | (k, d) :: ps, _, ⟨v, r, e, q, t⟩ => ⟨kV k, _, by rw [e]; rfl, by cases k <;> rfl, DvK.keys t⟩
theorem DvK.vals {H : Hp} : ∀ {ps : List (Key × D)} {ks : List (Key × V)}, DvK H ks ps → DvL H (ks.map fun kv => kv.2) (ps.map fun kd => kd.2)
  | [], ks, q => by rw [show ks = [] from q]; rfl
  | (k, d) :: ps, _, ⟨v, r, e, q, t⟩ => ⟨v, _, by rw [e]; rfl, q, DvK.vals t⟩
theorem DvK.length {H : Hp} : ∀ {ps : List (Key × D)} {ks : List (Key × V)}, DvK H ks ps → ks.length = ps.length
  | [], ks, q => by
    rw [show ks = [] from q]
    rfl
  | (k, d) :: ps, _, ⟨v, r, e, q, t⟩ => by rw [e, List.length_cons, List.length_cons, DvK.length t]
theorem depth_keys : ∀ (ps : List (Key × D)), D.depth.go (ps.map fun kd => kD kd.1) = 0
  | [] => rfl
  | (k, d) :: ps => by
    show max (kD k).depth (D.depth.go (ps.map fun kd => kD kd.1)) = 0
    rw [depth_keys ps]
    cases k <;> rfl
theorem depth_vals : ∀ (ps : List (Key × D)), D.depth.go (ps.map fun kd => kd.2) = D.depth.goK ps
  | [] => rfl
  | (k, d) :: ps => by
    show max d.depth (D.depth.go (ps.map fun kd => kd.2)) = max d.depth (D.depth.goK ps)
    rw [depth_vals ps]
end Gx
namespace Gx
open PySem L2 PySem.Spec PyProof.Rows
/-! ### kinds -/
def D.ty : D → String
  | .non => "NoneType" | .bl _ => "bool" | .int _ => "int" | .str _ => "str" | .lst _ => "list" | .tup _ => "tuple" | .dic _ => "dict"
theorem Dv.tyx {K : PySem.W.Frag} {H : Hp} {v : V} : ∀ {d : D}, Dv H v d → TyX K H v (.type d.ty)
  | .non, q => by rw [show v = .non from q]; exact .base .non
  | .bl b, q => by rw [show v = .bl b from q]; exact .base (.bl b)
  | .int i, q => by rw [show v = .int i from q]; exact .base (.int i)
  | .str s, q => by rw [show v = .str s from q]; exact .base (.str s)
  | .lst ds, ⟨p, vs, e, hp, _⟩ => by rw [e]; exact .base (.lst hp)
  | .tup ds, ⟨p, vs, e, hp, _⟩ => by rw [e]; exact .base (.tup hp)
  | .dic ps, ⟨p, vs, e, hp, _⟩ => by rw [e]; exact .base (.dK hp)
section
variable {σ : L2.St} {H : Hp} {Q : VK} {v : V} {K : PySem.W.Frag} {d : D}
theorem r_isiX {t : Value} {b : String} {r : Bool} (hv : TyX K H v t) (hk : PySem.W.kitOne K t (.type b) = some r) (k : Q (.bl r) H) : rIsiG K [v, .ty b] H Q := .inl ⟨v, .ty b, t, .type b, r, rfl, .ty b, hv, hk, k⟩
theorem r_isiD {b : String} {r : Bool} (hv : Dv H v d) (hk : kitB d.ty b = some r) (k : Q (.bl r) H) : rIsiG K [v, .ty b] H Q := r_isiX (Dv.tyx hv) (kit_ty hk) k
theorem r_isi2X {t : Value} {b1 b2 : String} {r : Bool} {p : Addr} (hp : H p = some (.tup [.ty b1, .ty b2])) (hv : TyX K H v t) (hk : PySem.W.kitAny K t [.type b1, .type b2] = some r) (k : Q (.bl r) H) : rIsiG K [v, .ref p] H Q :=
  .inr ⟨v, p, [.ty b1, .ty b2], t, [.type b1, .type b2], r, rfl, hp, .cons (.ty b1) (.cons (.ty b2) .nil), hv, hk, k⟩
def kitB2 (a b c : String) : Option Bool := match kitB a b with
  | some true => some true
  | some false => (match kitB a c with
    | some true => some true
    | some false => some false
    | none => none)
  | none => none
theorem kit_ty2 {a b c : String} {r : Bool} (h : kitB2 a b c = some r) : PySem.W.kitAny K (.type a) [.type b, .type c] = some r := h
theorem r_isi2D {b1 b2 : String} {r : Bool} {p : Addr} (hp : H p = some (.tup [.ty b1, .ty b2])) (hv : Dv H v d) (hk : kitB2 d.ty b1 b2 = some r) (k : Q (.bl r) H) : rIsiG K [v, .ref p] H Q := r_isi2X hp (Dv.tyx hv) (kit_ty2 hk) k
end
def D.isInt : D → Bool
  | .int _ => true
  | _ => false
def D.inR (lo hi : Int) : D → Bool
  | .int i => decide (lo ≤ i) && decide (i ≤ hi)
  | _ => false
def D.isSeq : D → Bool
  | .lst _ => true
  | .tup _ => true
  | _ => false
/-- p is free -/
def Nw (H : Hp) (p : Addr) : Prop := H p = none
theorem kit_seq (d : D) : kitB2 d.ty "list" "tuple" = some d.isSeq := by cases d <;> rfl
theorem same_new {H : Hp} {p : Addr} {o : HO} (h : H p = none) : Same H (upd H p o) := fun a u e => by
  rw [upd_ne (ne_of_none e h)]
  exact e
theorem all_new {H : Hp} {R : Addr → Prop} (k : ∀ p, Nw H p → R p) : ∀ p, H p = none → R p := k
theorem same_mut {H H' : Hp} {p : Addr} {o : HO} (e : Same H H') (h : H p = none) : Same H (upd H' p o) := fun a u ha => by
  rw [upd_ne (ne_of_none ha h)]
  exact e a u ha
/-! ### the law's store -/
/-- the law's store at p: its cells at c, how many are taken, the bank, the mix, the count -/
def Sto (H : Hp) (p c : Addr) : Prop := ∃ (cells : List Int) (at' : Nat) (bank mx cnt : Int),
  H p = some (.lst [.ref c, .int at', .int bank, .int mx, .int cnt]) ∧ H c = some (.lst (cells.map V.int)) ∧ c ≠ p ∧ at' ≤ cells.length ∧ cells.length ≤ sizeLine
/-- all but the store stands as it stood -/
def SB (p : Addr) (H H' : Hp) : Prop := ∀ b o, b ≠ p → H b = some o → H' b = some o
theorem SB.refl {p : Addr} {H : Hp} : SB p H H := fun _ _ _ h => h
theorem SB.trans {p : Addr} {H H1 H2 : Hp} (a : SB p H H1) (b : SB p H1 H2) : SB p H H2 := fun c o n h => b c o n (a c o n h)
theorem SB.upd {p : Addr} {H H1 : Hp} {o : HO} (a : SB p H H1) : SB p H (upd H1 p o) := fun c u n h => by
  rw [upd_ne n]
  exact a c u n h
theorem SB.of {p : Addr} {H H1 : Hp} (a : Same H H1) : SB p H H1 := fun c o _ h => a c o h
/-- what does not hang on the store: seen without it -/
def wo (p : Addr) (H : Hp) : Hp := fun b => if b = p then none else H b
theorem wo_ne {p b : Addr} {H : Hp} (h : b ≠ p) : wo p H b = H b := if_neg h
theorem wo_same {p : Addr} {H : Hp} : wo p H p = none := if_pos rfl
theorem wo_sub {p : Addr} {H : Hp} : Same (wo p H) H := fun b o h => by
  by_cases e : b = p
  · rw [e, wo_same] at h; cases h
  · rw [wo_ne e] at h; exact h
theorem SB.wo {p : Addr} {H H' : Hp} (s : SB p H H') : Same (wo p H) (wo p H') := fun b o h => by
  by_cases e : b = p
  · rw [e, wo_same] at h; cases h
  · rw [wo_ne e] at h ⊢; exact s b o e h
theorem wo_at {p b : Addr} {H : Hp} {o : HO} (h : H b = some o) (n : b ≠ p) : Gx.wo p H b = some o := by
  rw [wo_ne n]; exact h
theorem e_dnewK {σ : L2.St} {H : Hp} {Q : VK} (k : ∀ p, Nw H p → Q (.ref p) (upd H p (.dK []))) : tDNewK σ H Q := k
theorem e_disp1 {σ : L2.St} {H : Hp} {Q : VK} {tk tv : TE} (k : ∀ p, Nw H p → tk σ (upd H p (.dK [])) fun x H1 => tv σ H1 fun y H2 => H2 p = some (.dK []) ∧ ∃ kk : Key, x = kV kk ∧ Q (.ref p) (upd H2 p (.dK [(kk, y)]))) (mono : ∀ σ H R R', (∀ x H1, R x H1 → R' x H1) → tk σ H R → tk σ H R') (mono2 : ∀ σ H R R', (∀ x H1, R x H1 → R' x H1) → tv σ H R → tv σ H R') : tDisp [(tk, tv)] σ H Q := fun p hp => by
  refine mono _ _ _ _ (fun x H1 q1 => ?_) (k p hp)
  refine mono2 _ _ _ _ (fun y H2 q2 => ?_) q1
  obtain ⟨h1, kk, rfl, q⟩ := q2
  refine ⟨h1, [(kk, y)], rfl, (by show 1 ≤ 15; decide), ?_⟩
  have e : mergeK [] [(kk, y)] = [(kk, y)] := by simp [mergeK, putK]
  rw [e]
  exact q
theorem mono_c {v : V} : ∀ (σ : L2.St) (H : Hp) (R R' : VK), (∀ x H1, R x H1 → R' x H1) → tC v σ H R → tC v σ H R' := fun _ H _ _ h q => h v H q
theorem mono_l1 {v : V} : ∀ (σ : L2.St) (H : Hp) (R R' : VK), (∀ x H1, R x H1 → R' x H1) → tLst (tCons (tC v) tNil) σ H R → tLst (tCons (tC v) tNil) σ H R' := fun _ H _ _ h q => ⟨q.1, fun p hp => h _ _ (q.2 p hp)⟩
theorem e_keyS {s : Str} {R : Key → Prop} (k : R (.inr s)) : ∃ kk : Key, V.str s = kV kk ∧ R kk := ⟨.inr s, rfl, k⟩
theorem e_keyI {i : Int} {R : Key → Prop} (k : R (.inl i)) : ∃ kk : Key, V.int i = kV kk ∧ R kk := ⟨.inl i, rfl, k⟩
theorem len_ok {xs : List V} (h : Nat.ble xs.length 100 = true) : xs.length ≤ sizeLine := Nat.le_trans (Nat.le_of_ble_eq_true h) (by decide)
theorem same_up {H H1 : Hp} {p : Addr} {o : HO} (s : Same H H1) (h : H1 p = none) : Same H (upd H1 p o) := s.trans (same_new h)
theorem same_free {H H1 H2 : Hp} {p : Addr} {o : HO} (s : Same H H1) (s2 : Same H H2) (h : H2 p = none) : Same H (upd H1 p o) := same_mut s (s2.free h)
theorem nw_new {H : Hp} {p : Addr} {o : HO} (h : Nw H p) : Same H (upd H p o) := same_new h
theorem nw_up {H H1 : Hp} {p : Addr} {o : HO} (s : Same H H1) (h : Nw H1 p) : Same H (upd H1 p o) := same_up s h
theorem nw_free {H H1 H2 : Hp} {p : Addr} {o : HO} (h : Nw H2 p) (s : Same H H1) (s2 : Same H H2) : Same H (upd H1 p o) := same_free s s2 h
theorem nw_ne {H : Hp} {a b : Addr} {o : HO} (h' : Nw H b) (h : H a = some o) : a ≠ b := ne_of_none h h'
theorem nw_dv {H : Hp} {p : Addr} {o : HO} {v : V} {d : D} (h : Nw H p) (q : Dv H v d) : Dv (upd H p o) v d := Dv.mono (same_new h) q
theorem r_un {H : Hp} {Q : VK} {g : Int → V} {i : Int} (k : Q (g i) H) : rU g (.int i) H Q := ⟨i, rfl, k⟩
theorem and_rfl {α : Type} {a : α} {R : Prop} (k : R) : a = a ∧ R := ⟨rfl, k⟩
theorem and_look {H : Hp} {p : Addr} {o : HO} {R : Prop} (h : H p = some o) (k : R) : H p = some o ∧ R := ⟨h, k⟩
theorem wo_upd {p : Addr} {H : Hp} {o : HO} : wo p (upd H p o) = wo p H := by
  funext b
  by_cases e : b = p
  · rw [e, wo_same, wo_same]
  · rw [wo_ne e, wo_ne e, upd_ne e]
theorem same_wo {H H' : Hp} {p : Addr} (s : Same H H') (h : H p = none) : Same H (Gx.wo p H') := fun b o e => by
  have n : b ≠ p := ne_of_none e h
  rw [wo_ne n]
  exact s b o e
theorem Sto.keep {p c : Addr} {H H' : Hp} (s : Sto H p c) (h : Same H H') : Sto H' p c := by
  obtain ⟨cells, at', bank, mx, cnt, h1, h2, h3⟩ := s
  exact ⟨cells, at', bank, mx, cnt, h _ _ h1, h _ _ h2, h3⟩
theorem Sto.mut {p c q : Addr} {H : Hp} {o : HO} (s : Sto H p c) (n : q ≠ p) (n2 : q ≠ c) : Sto (upd H q o) p c := by
  obtain ⟨cells, at', bank, mx, cnt, h1, h2, h3⟩ := s
  exact ⟨cells, at', bank, mx, cnt, (upd_ne n.symm).trans h1, (upd_ne n2.symm).trans h2, h3⟩
theorem Sto.ne {p c q : Addr} {H : Hp} (s : Sto H p c) (h : Nw H q) : q ≠ p ∧ q ≠ c := by
  obtain ⟨cells, at', bank, mx, cnt, h1, h2, h3⟩ := s
  exact ⟨(nw_ne h h1).symm, (nw_ne h h2).symm⟩
theorem SB.free {p q : Addr} {H H' : Hp} (s : SB p H H') (n : q ≠ p) (h : H' q = none) : H q = none := by
  cases e : H q with
  | none => rfl
  | some o =>
    rw [s _ _ n e] at h
    cases h
theorem SB.new {p q : Addr} {H H' : Hp} {o : HO} (s : SB p H H') (h : Nw H' q) : SB p H (L2.upd H' q o) := s.trans (SB.of (nw_new h))
theorem SB.mut {p q : Addr} {H H' : Hp} {o : HO} (s : SB p H H') (h : H q = none) : SB p H (L2.upd H' q o) := fun b u nb hb => by
  rw [upd_ne (ne_of_none hb h)]
  exact s b u nb hb
end Gx

set_option Elab.async false
set_option linter.all false
set_option maxRecDepth 100000
set_option maxHeartbeats 4000000
/-! Ge: own exceptions: X(), try with several named clauses, isinstance of the caught one. -/
namespace Gx
open PySem L2 PySem.Spec PyProof.Rows
section
variable {X : Cx}
/-- X(), X an own exception class without an __init__ of its own -/
theorem pmk_own0 {C : Addr} {bmB : List Value} {B newId initId : String} {x : Str} {p pos : Pos} (F : ExcBaseFacts B newId initId bmB) (q : PySem.W.excIn X.K C bmB newId = true) (gC : X.mg x = some (.ref C))
    (kC : PySem.W.keepIn X.K (.ref C) = true) (r : Raises X (.ref C)) (hg : Gl X x) (hdb : (x == ("__debug__" : Str)) = false := by decide) :
    PMk X (.Call (.Name x p) [] [] pos) (fun _ H Q => Q (.ref C) none H) := by
  intro pins s σ H Q I hq
  refine wpAny_Call_Name_kw (ld_glob I hg gC ?_ hdb)
  refine PySem.W.callWith_K0 I.kIn kC ?_
  show wpAny _ _ (call (.ref C) []) _ _ _
  obtain ⟨bm, N, nm, qn, bs, hdct, sn, sub, ab, col, dd, k0, k1, k2, k3, k5, mN, hC, hN, hni, T⟩ := exc_obj I.kIn q
  exact wpAny_call_exc_subT F T hC hN hni (fun h' e hm => mk_of I hm r hq (I.hok.gone hm.new)) (Nat.zero_le _)

/-! ### try with several clauses, named or not -/
structure Clause where
  cls : Value
  slot : Option Nat
  suite : Addr → Value → Option Addr → TS
def unslot (i : Option Nat) (D : Ends) : Ends := match i with
  | none => D
  | some i => ⟨fun σ H => D.nx (σ.set i none) H, D.rt, fun σ H => D.bk (σ.set i none) H, fun σ H => D.ct (σ.set i none) H⟩
def inslot (i : Option Nat) (a : Addr) (σ : L2.St) : L2.St := match i with
  | none => σ
  | some i => σ.set i (some (.ref a))
def wCls (K : PySem.W.Frag) (Wout : WX) (D : Ends) : List Clause → WX
  | [] => Wout
  | k :: r => fun cls d σ H => ∃ b, PySem.W.exmOne K cls k.cls = some b ∧ (b = true → ∀ a, H a = none → k.suite a cls d (unslot k.slot D) (inslot k.slot a σ) H) ∧ (b = false → wCls K Wout D r cls d σ H)
inductive ClsOk (X : Cx) : List ExceptHandler → List Clause → Prop
  | nil : ClsOk X [] []
  | cons {x : Str} {c : Value} {ts : Addr → Value → Option Addr → TS} {b₀ : Stmt} {suite : List Stmt} {np pos' : Pos} {hds : List ExceptHandler} {l : List Clause} (hc : Names X x c)
      (hsu : ∀ (a : Addr) (oe : Obj) (cls : Value) (d : Option Addr) (pn : List (Addr × Obj)), Zc cls d oe → (∃ vs, oe.data = .fields vs) → PSs (X.suite a ((a, oe) :: pn)) (b₀ :: suite) (ts a cls d)) (r : ClsOk X hds l) :
      ClsOk X (.ExceptHandler (some (.Name x np)) none (b₀ :: suite) pos' :: hds) (⟨c, none, ts⟩ :: l)
  | consAs {x n : Str} {i : Nat} {c : Value} {ts : Addr → Value → Option Addr → TS} {b₀ : Stmt} {suite : List Stmt} {np pos' : Pos} {hds : List ExceptHandler} {l : List Clause} (hN : X.N.Nodup) (hi : X.N[i]? = some n) (hln : X.env.kindOf n = some .local) (hc : Names X x c)
      (hsu : ∀ (a : Addr) (oe : Obj) (cls : Value) (d : Option Addr) (pn : List (Addr × Obj)), Zc cls d oe → (∃ vs, oe.data = .fields vs) → PSs (X.suite a ((a, oe) :: pn)) (b₀ :: suite) (ts a cls d)) (r : ClsOk X hds l) :
      ClsOk X (.ExceptHandler (some (.Name x np)) (some n) (b₀ :: suite) pos' :: hds) (⟨c, some i, ts⟩ :: l)
def tTryC (K : PySem.W.Frag) (tb : WX → TS) (Wout : WX) (l : List Clause) : TS := fun D σ H => tb (wCls K Wout D l) D σ H
theorem ps_try_cls {body : List Stmt} {h₀ : ExceptHandler} {hds : List ExceptHandler} {l : List Clause} {pos : Pos} {tb : WX → TS} {Wout : WX} (hs : X.stack = X.env :: X.outer) (hf : X.env.frame = some X.env.locals) (tk : Takes X Wout)
    (hb : ∀ (W : WX) (pn : List (Addr × Obj)) (xe : Value → Shared → Prop), Takes (X.tr pn xe) W → PassesOwn (model X.prog X.w) X.A X.env xe → PSs (X.tr pn xe) body (tb W))
    (hh : ClsOk X (h₀ :: hds) l) : PS X (.Try body (h₀ :: hds) [] [] pos) (tTryC X.K tb Wout l) := by
  refine ⟨fun pins s σ H D I h => ?_⟩
  have okX := I.ok
  have hframes : X.A.frames = some (X.env :: X.outer) := by rw [okX.frames, hs]
  refine wpAny_Try_except ?_
  refine wpAny_mono ((hb (wCls X.K Wout D l) (X.pn ++ pins) (fun e s₁ => wpAny (model X.prog X.w) X.A (noteFrame e X.env) (fun _ s₂ => wpAny (model X.prog X.w) X.A (setFlight e none) (fun _ s₃ =>
    wpAny (model X.prog X.w) X.A (handleBy e X.env (h₀ :: hds)) (SP X pins D) X.xe s₃) X.xe s₂) X.xe s₁) (fun u s' xx => ?_) PassesOwn.looking).run [] s σ H D (I.toTry _) h) (fun f s1 hsp => ?_) (fun e s1 he => he)
  · obtain ⟨a, B, sI, pins', σ', H', cls, d, rfl, J', nb, up, sky, na, os, ag, ww⟩ := xx
    have J : Inv X pins σ' H' sI := J'.ofTry okX
    have skyX : Sky B (X.env :: X.outer) a (Zc cls d) X.env.locals s'.heap := by rw [← hs]; exact sky
    show wpAny (model X.prog X.w) X.A (noteFrame (.ref a) X.env) _ _ _
    refine Sky.land Zc.steady hframes hf skyX fun h3 fl3 up3 => ?_
    have J3 : Inv X pins σ' H' { s' with heap := h3 } := J.landed nb fl3.1 (up.trans up3) os ag
    obtain ⟨oe3, vs3, he3, hz3, hd3⟩ := fl3.there
    have nfr : a ∉ frs (X.env :: X.outer) := fun hm => by
      obtain ⟨_, o', e', hnf⟩ := fl3.2.2.1.mem hm
      rw [he3] at e'; cases e'
      exact hnf _ hd3
    have nL : a ≠ X.env.locals := fun z => nfr (List.mem_filterMap.mpr ⟨X.env, List.mem_cons_self, by rw [hf, z]⟩)
    have nF : a ∉ X.fs := fun hm => by
      obtain ⟨e, he, q⟩ := List.mem_filterMap.mp hm
      exact nfr (List.mem_filterMap.mpr ⟨e, List.mem_cons_of_mem _ he, q⟩)
    have S3 := J3.suite he3 hd3 na nL nF
    have LT : PySem.W.Looks (model X.prog X.w) h3 (typeOf (.ref a)) cls := fun A Q E s k q => wpAny_typeOf_ref (k _ _ he3) (by rw [hz3.1]; exact q)
    have nameAt : ∀ {x : Str} {c : Value} {np : Pos}, Names X x c → ∀ {Q : Value → Shared → Prop} {E : Value → Shared → Prop}, Q c { s' with heap := h3 } → wpAny (model X.prog X.w) (X.A.mark (some (.ref a))) (eval (.Name x np) X.env) Q E { s' with heap := h3 } := fun {x c np} hc {Q E} q => by
      obtain ⟨hg, hdbg, hm | ⟨hm, hv, hnn⟩⟩ := hc
      · exact ld_glob (X := X.suite a ((a, oe3) :: (X.pn ++ pins))) S3 hg hm q hdbg
      · exact ld_blt (X := X.suite a ((a, oe3) :: (X.pn ++ pins))) S3 hg hm hv q hnn hdbg
    have go : ∀ {hds' : List ExceptHandler} {l' : List Clause}, ClsOk X hds' l' → wCls X.K Wout D l' cls d σ' H' →
        wpAny (model X.prog X.w) X.A (handleBy (.ref a) X.env hds') (SP X pins D) X.xe { s' with heap := h3 } := by
      intro hds' l' hk
      induction hk with
      | nil =>
        intro ww
        refine wpAny_handleBy_nil ?_
        obtain ⟨k1, k2, k3, oe, vs, T, oT, ts', he, hz, hd, h1, hr⟩ := id fl3
        unfold PySem.passOn
        refine wpAny_bind (wpAny_field he hd h1 ?_)
        rw [if_neg (show ¬ ((Value.ref T == Value.none) = true) from by simp)]
        have fin : wpAny (model X.prog X.w) X.A (setFlight (.ref a) X.env.frame) (fun _ s4 => wpAny (model X.prog X.w) X.A (throw (.ref a) : Sem Flow) (SP X pins D) X.xe s4) X.xe { s' with heap := h3 } := by
          rw [hf]
          refine HandSPX.setFlight_upZ fl3 fun h4 hh4 up4 => wpAny_throw (tk _ _ ?_)
          exact ⟨a, B, sI, pins, σ', H', cls, d, rfl, J, nb, (up.trans up3).trans up4, .inr (.inr (by rw [hs]; exact hh4)), na, os, ag, ww⟩
        first
          | exact wpAny_bind (wpAny_pure (wpAny_bind fin))
          | exact wpAny_bind fin
      | @cons x c ts b₀ suite np pos' hds2 l2 hc hsu r ih =>
        intro ww
        obtain ⟨b, hb1, hyes, hno⟩ := ww
        refine wpAny_handleBy_cons (codeAny_handlers_test ?_) (by intro q; cases q)
        refine nameAt hc ((PySem.W.exm_one (M := model X.prog X.w) J3.kIn LT hb1).here ?_)
        cases b with
        | false => exact ih (hno rfl)
        | true =>
          refine codeAny_handlers_suite ?_
          refine HandSPX.lands_againZ fl3 fun h4 fl4 up4 => ?_
          have J4 : Inv X pins σ' H' { s' with heap := h4 } := J.landed nb fl4.1 ((up.trans up3).trans up4) os ag
          obtain ⟨oe4, vs4, he4, hz4, hd4⟩ := fl4.there
          have S4 := J4.suite he4 hd4 na nL nF
          refine wpAny_mono ((hsu a oe4 cls d (X.pn ++ pins) hz4 ⟨_, hd4⟩).run [] _ _ H' _ S4 (hyes rfl a na)) (fun f s6 hsp => ?_) (fun _ _ z => False.elim z)
          cases f with
          | ret u =>
            obtain ⟨v6, σ6, H6, S6, r6, q6⟩ := hsp
            exact ⟨_, _, _, S6.unsuite okX, r6, q6⟩
          | _ =>
            obtain ⟨σ6, H6, S6, q6⟩ := hsp
            exact ⟨_, _, S6.unsuite okX, q6⟩
      | @consAs x n i c ts b₀ suite np pos' hds2 l2 hN hi hln hc hsu r ih =>
        intro ww
        obtain ⟨b, hb1, hyes, hno⟩ := ww
        refine wpAny_handleBy_cons (codeAny_handlers_test ?_) (by intro q; cases q)
        refine nameAt hc ((PySem.W.exm_one (M := model X.prog X.w) J3.kIn LT hb1).here ?_)
        cases b with
        | false => exact ih (hno rfl)
        | true =>
          refine codeAny_handlers_suite_as ?_
          refine HandSPX.lands_againZ fl3 fun h4 fl4 up4 => ?_
          have J4 : Inv X pins σ' H' { s' with heap := h4 } := J.landed nb fl4.1 ((up.trans up3).trans up4) os ag
          obtain ⟨oe4, vs4, he4, hz4, hd4⟩ := fl4.there
          have S4 := J4.suite he4 hd4 na nL nF
          have hloc : Loc X.env.scope n := .inl hln
          refine store_ok (X := X.suite a ((a, oe4) :: (X.pn ++ pins))) (v := .ref a) S4 hN hi hloc rfl (fun s5 S5 => ?_) (.inr hln)
          refine wpAny_mono ((hsu a oe4 cls d (X.pn ++ pins) hz4 ⟨_, hd4⟩).run [] s5 _ H' _ S5 (hyes rfl a na)) (fun f s6 hsp => ?_) (fun _ _ z => False.elim z)
          cases f with
          | ret u =>
            obtain ⟨v6, σ6, H6, S6, r6, q6⟩ := hsp
            exact gone_ok (S6.unsuite okX) hN hi hln fun s7 J7 => ⟨_, _, _, J7, r6, q6⟩
          | _ =>
            obtain ⟨σ6, H6, S6, q6⟩ := hsp
            exact gone_ok (S6.unsuite okX) hN hi hln fun s7 J7 => ⟨_, _, J7, q6⟩
    exact go hh ww
  · cases f with
    | next =>
      obtain ⟨σ', H', J', q⟩ := hsp
      exact wpAny_execs_nil ⟨σ', H', J'.ofTry okX, q⟩
    | brk =>
      obtain ⟨σ', H', J', q⟩ := hsp
      exact ⟨σ', H', J'.ofTry okX, q⟩
    | cont =>
      obtain ⟨σ', H', J', q⟩ := hsp
      exact ⟨σ', H', J'.ofTry okX, q⟩
    | ret u =>
      obtain ⟨v, σ', H', J', r, q⟩ := hsp
      exact ⟨v, σ', H', J'.ofTry okX, r, q⟩
end
end Gx
namespace Gx
open PySem L2 PySem.Spec PyProof.Rows
/-- what an own exception class says, so that its instances may be asked -/
structure ExC (K : PySem.W.Frag) (D : Addr) : Prop where
  ga : PySem.W.findIn K (.ref D) "__getattribute__" = some (some (.builtin "BaseException.__getattribute__"))
  gg : PySem.W.findIn K (.ref D) "__getattr__" = some none
  exC : PySem.W.subIn K (.ref D) (.type "BaseException") = some true
  hd : PySem.W.hasDictIn K D = true
  cl : PySem.W.findIn K (.ref D) "__class__" = some (some (.builtin "object.__class__"))
  sn : PySem.W.specialIn K (.builtin "object.__class__") "__get__" = some (some (.builtin "getset_descriptor.__get__"))
  tk : PySem.W.takesIn K (.builtin "object.__class__") = some true
  mo : PySem.W.mroIn K D (.type "object") = some true
theorem ExC.cls {K : PySem.W.Frag} {D : Addr} (c : ExC K D) : (PySem.W.clsIn K D).isSome = true := by
  obtain ⟨cd, h, _⟩ := PySem.W.any_some c.hd
  rw [h]; rfl
theorem ExC.xf {K : PySem.W.Frag} {D : Addr} (c : ExC K D) : XfC K D := ⟨c.ga, c.gg, c.exC, c.hd⟩
/-- the exception's own dict, if it has one, stands -/
def DictSt (H : Hp) : Option Addr → Prop
  | none => True
  | some dd => ∃ fs, H dd = some (.xd fs)
def rIsX (K : PySem.W.Frag) (a : Addr) (cls : Value) (d : Option Addr) : List V → Hp → VK → Prop := fun xs H Q => ∃ (D : Addr) (c : V) (cv : Value) (b : Bool),
  cls = .ref D ∧ ExC K D ∧ DictSt H d ∧ xs = [.ref a, c] ∧ ClsV c cv ∧ PySem.W.kitOne K (.ref D) cv = some b ∧ Q (.bl b) H
def rIsX2 (K : PySem.W.Frag) (a : Addr) (cls : Value) (d : Option Addr) : List V → Hp → VK → Prop := fun xs H Q => ∃ (D tp : Addr) (cs : List V) (us : List Value) (b : Bool),
  cls = .ref D ∧ ExC K D ∧ DictSt H d ∧ xs = [.ref a, .ref tp] ∧ H tp = some (.tup cs) ∧ Paired ClsV cs us ∧ PySem.W.kitAny K (.ref D) us = some b ∧ Q (.bl b) H
section
variable {X : Cx} {a : Addr} {cls : Value} {d : Option Addr} {oe : Obj} {pn : List (Addr × Obj)}
theorem inst_suite {pins : List (Addr × Obj)} {σ : L2.St} {H : Hp} {s : Shared} {D : Addr} (I : Inv (X.suite a ((a, oe) :: pn)) pins σ H s) (hz : Zc (.ref D) d oe) (hf : ∃ vs, oe.data = .fields vs) (hd : DictSt H d) :
    ∃ od, PySem.W.InstAt s.heap a oe D od := by
  obtain ⟨ha, _⟩ := I.pin (a, oe) (List.mem_append_left _ List.mem_cons_self)
  obtain ⟨vs, hv⟩ := hf
  have nc : PySem.W.notCls oe = true := by unfold PySem.W.notCls; rw [hv] <;> rfl
  cases d with
  | none => exact ⟨none, ha, hz.1, nc, by rw [hz.2]; trivial⟩
  | some dd =>
    obtain ⟨fs, h⟩ := hd
    obtain ⟨mA, hns, _⟩ := (show ObjOk X.prog X.w H s.heap dd (.xd fs) from I.hok dd _ h)
    obtain ⟨od, ho, _⟩ := lookIn_ns hns
    exact ⟨some od, ha, hz.1, nc, by rw [hz.2]; exact ho⟩
def rIsXG (K : PySem.W.Frag) (a : Addr) (cls : Value) (d : Option Addr) : List V → Hp → VK → Prop := fun xs H Q => rIsX K a cls d xs H Q ∨ rIsX2 K a cls d xs H Q
theorem call_isX (hz : Zc cls d oe) (hf : ∃ vs, oe.data = .fields vs) : CallR (X.suite a ((a, oe) :: pn)) (.builtin "isinstance") (rIsXG X.K a cls d) := by
  intro pins s σ H xs us Q I r h
  rcases h with ⟨D, c, cv, b, rfl, C, hd, rfl, hc, e, q⟩ | ⟨D, tp, cs, vs, b, rfl, C, hd, rfl, ht, hc, e, q⟩
  · obtain ⟨u1, u2, rfl, r1, r2⟩ := vals2 r
    cases (show u1 = Value.ref a from r1)
    have e2 := hc.eq r2
    subst e2
    obtain ⟨od, J⟩ := inst_suite I hz hf hd
    exact PySem.W.kia_one (PySem.W.kitx_exc (od := od) C.cls C.ga C.gg C.exC C.cl C.sn C.tk C.mo) I.kIn J e (fun z => nomatch z) fun tk => ⟨.bl b, H, I.tok tk, rfl, q⟩
  · obtain ⟨u1, u2, rfl, r1, r2⟩ := vals2 r
    cases (show u1 = Value.ref a from r1)
    cases (show u2 = Value.ref tp from r2)
    obtain ⟨od, J⟩ := inst_suite I hz hf hd
    obtain ⟨_, its, rv, o, h1, h2, n, h3⟩ := (show ObjOk X.prog X.w H s.heap tp (.tup cs) from I.hok tp _ ht)
    have e3 := ClsV.all hc rv
    subst e3
    obtain ⟨oc, od', dt, sl⟩ := o
    simp only at h2 h3
    subst h2 h3
    exact PySem.W.kia_tup (PySem.W.kitx_exc (od := od) C.cls C.ga C.gg C.exC C.cl C.sn C.tk C.mo) I.kIn J h1 e (fun z => nomatch z) fun tk => ⟨.bl b, H, I.tok tk, rfl, q⟩
end
end Gx
namespace Gx
open PySem L2 PySem.Spec PyProof.Rows
/-! ### raise C(e), C's own __init__ storing its one argument -/
def spInit1 (K : PySem.W.Frag) (C : Addr) (f : Str) : Sp := fun vs H Q _ => ∃ (a : Addr) (v : V), vs = [.ref a, v] ∧ H a = some (exo a C none) ∧
  ∀ dx, H dx = none → dx ≠ a → Q .non (upd (upd H dx (exd dx [(f, v)])) a (exo a C (some dx)))
def tRaise1 (C : Addr) (f : Str) (W : WX) (ta : TA) : TS := fun _ σ H => ta σ H fun vs H1 => ∃ v, vs = [v] ∧ ∀ d H2, H1 d = none → Same H1 H2 → H2 d = some (.xd [(f, v)]) → W (.ref C) (some d) σ H2
theorem PS.imp {X : Cx} {st : Stmt} {t t' : TS} (h : PS X st t) (i : ∀ D σ H, t' D σ H → t D σ H) : PS X st t' := ⟨fun pins s σ H D I q => h.run pins s σ H D I (i D σ H q)⟩
theorem ps_raise1 {X : Cx} {x f : Str} {C fI : Addr} {k : Nat} {fd : FuncData} {ps : List Str} {W : WX} {e : Expr} {ta : TA} {p pos pos2 : Pos} (hc : X.calm = true) (tk : Takes X W) (T : OexC X.K C)
    (iC : PySem.W.findIn X.K (.ref C) "__init__" = some (some (.ref fI))) (tI : PySem.W.typeIn X.K (.ref fI) = some (.type "function"))
    (F1 : FnOk X.prog X.w X.K X.mg X.base CX0 k fI fd ps (spInit1 X.K C f)) (hr : Room (k + 1) X.A) (hb : Binds X.K fd ps []) (hm : X.mg x = some (.ref C)) (ha : PA X [e] ta)
    (mono : ∀ σ H Q Q', (∀ vs H1, Q vs H1 → Q' vs H1) → ta σ H Q → ta σ H Q')
    (hg : Gl X x := by rfl) (hdb : (x == ("__debug__" : Str)) = false := by decide) (he : starEach (e :: []) X.env = (false, eval e X.env) :: starEach [] X.env := by rfl) (hpl : (backTo pos (starEach [] X.env)).any (·.1) = false := by rfl) :
    PS X (.Raise (some (.Call (.Name x p) [e] [] pos)) none pos2) (tRaise1 C f W ta) := by
  refine PS.imp (ps_raise hc tk (pmk_oex (dvs := []) T iC tI F1 hr hb .nil pass0 hg hm ha hdb he hpl)) fun D σ H q => ?_
  refine mono σ H _ _ (fun vs H1 z => ?_) q
  obtain ⟨v, rfl, kk⟩ := z
  refine ⟨(by show 1 ≤ 1000; decide), fun a ha => ⟨a, v, rfl, upd_same, fun dx hd hne => ⟨rfl, dx, [(f, v)], upd_same, ?_, ?_, ?_⟩⟩⟩
  · rw [upd_ne hne, upd_same]
  · rw [upd_ne hne] at hd
    exact hd
  · have hd1 : H1 dx = none := by rw [upd_ne hne] at hd; exact hd
    refine kk dx _ hd1 (fun b o hb => ?_) upd_same
    have n1 : b ≠ dx := ne_of_none hb hd1
    have n2 : b ≠ a := ne_of_none hb ha
    rw [upd_ne n1, del_ne n2, upd_ne n2, upd_ne n1, upd_ne n2]
    exact hb
theorem mono_a0 : ∀ (σ : L2.St) (H : Hp) (Q Q' : List V → Hp → Prop), (∀ vs H1, Q vs H1 → Q' vs H1) → tNil σ H Q → tNil σ H Q' := fun _ _ _ _ h q => h _ _ q
theorem mono_cv {i : Nat} : ∀ (σ : L2.St) (H : Hp) (Q Q' : List V → Hp → Prop), (∀ vs H1, Q vs H1 → Q' vs H1) → tCons (tVar i) tNil σ H Q → tCons (tVar i) tNil σ H Q' := fun _ _ _ _ h q => by
  obtain ⟨v, e, q⟩ := q
  exact ⟨v, e, h _ _ q⟩
theorem mono_cc {v : V} : ∀ (σ : L2.St) (H : Hp) (Q Q' : List V → Hp → Prop), (∀ vs H1, Q vs H1 → Q' vs H1) → tCons (tC v) tNil σ H Q → tCons (tC v) tNil σ H Q' := fun _ _ _ _ h q => h _ _ q
def tRaise0 (C : Addr) (W : WX) : TS := fun _ σ H => W (.ref C) none σ H
theorem ps_raise0 {X : Cx} {x : Str} {C : Addr} {W : WX} {p pos pos2 : Pos} (hc : X.calm = true) (tk : Takes X W) (q : PySem.W.excIn X.K C [.type "ValueError", .type "Exception", .type "BaseException", .type "object"] "ValueError.__new__" = true)
    (gC : X.mg x = some (.ref C)) (kC : PySem.W.keepIn X.K (.ref C) = true) (h1 : PySem.W.subIn X.K (.ref C) (.type "BaseException") = some true) (h2 : PySem.W.typeIn X.K (.ref C) = some (.type "type")) (hg : Gl X x := by rfl)
    (hdb : (x == ("__debug__" : Str)) = false := by decide) : PS X (.Raise (some (.Call (.Name x p) [] [] pos)) none pos2) (tRaise0 C W) :=
  ps_raise hc tk (pmk_own0 PySem.F.excBase_ValueError q gC kC (raises_own h1 h2) hg hdb)
end Gx
namespace Gx
open PySem L2 PySem.Spec PyProof.Rows
section
variable {K : PySem.W.Frag} {σ : L2.St} {H : Hp} {n b c : L2.St → Hp → Prop} {rt : VK} {Wout : WX} {cls c0 : Value} {d : Option Addr} {i : Nat} {ts : Addr → Value → Option Addr → TS} {r : List Clause}
theorem s_try {tb : WX → TS} {l : List Clause} (k : tb (wCls K Wout ⟨n, rt, b, c⟩ l) ⟨n, rt, b, c⟩ σ H) : tTryC K tb Wout l ⟨n, rt, b, c⟩ σ H := k
theorem w_miss {D : Ends} {k0 : Clause} (h : PySem.W.exmOne K cls k0.cls = some false) (k : wCls K Wout D r cls d σ H) : wCls K Wout D (k0 :: r) cls d σ H := ⟨false, h, (fun q => nomatch q), fun _ => k⟩
theorem w_hitAs (h : PySem.W.exmOne K cls c0 = some true) (k : ∀ a, Nw H a → ts a cls d ⟨fun σ H => n (σ.set i none) H, rt, fun σ H => b (σ.set i none) H, fun σ H => c (σ.set i none) H⟩ (σ.set i (some (.ref a))) H) :
    wCls K Wout ⟨n, rt, b, c⟩ (⟨c0, some i, ts⟩ :: r) cls d σ H := ⟨true, h, (fun _ a ha => k a ha), (fun q => nomatch q)⟩
theorem w_hit (h : PySem.W.exmOne K cls c0 = some true) (k : ∀ a, Nw H a → ts a cls d ⟨n, rt, b, c⟩ σ H) :
    wCls K Wout ⟨n, rt, b, c⟩ (⟨c0, none, ts⟩ :: r) cls d σ H := ⟨true, h, (fun _ a ha => k a ha), (fun q => nomatch q)⟩
theorem e_xf {a C dd : Addr} {f : Str} {v : V} {fs : List (Str × V)} {Q : VK} {i : Nat} (hs : σ[i]? = some (some (.ref a))) (h : H dd = some (.xd fs)) (hl : fs.lookup f = some v) (k : Q v H) : tXf a (.ref C) (some dd) C f (tVar i) σ H Q :=
  ⟨.ref a, hs, rfl, rfl, dd, fs, v, rfl, h, hl, k⟩
theorem r_isX {a D : Addr} {cx : V} {cv : Value} {bb : Bool} {Q : VK} (C : ExC K D) (hd : DictSt H d) (hc : ClsV cx cv) (hk : PySem.W.kitOne K (.ref D) cv = some bb) (k : Q (.bl bb) H) : rIsXG K a (.ref D) d [.ref a, cx] H Q :=
  .inl ⟨D, cx, cv, bb, rfl, C, hd, rfl, hc, hk, k⟩
theorem r_isX2 {a D tp : Addr} {cs : List V} {us : List Value} {bb : Bool} {Q : VK} (C : ExC K D) (hd : DictSt H d) (ht : H tp = some (.tup cs)) (hc : Paired ClsV cs us) (hk : PySem.W.kitAny K (.ref D) us = some bb) (k : Q (.bl bb) H) : rIsXG K a (.ref D) d [.ref a, .ref tp] H Q :=
  .inr ⟨D, tp, cs, us, bb, rfl, C, hd, rfl, ht, hc, hk, k⟩
theorem s_raise1 {C : Addr} {f : Str} {W : WX} {ta : TA} {D : Ends} (k : ta σ H fun vs H1 => ∃ v, vs = [v] ∧ ∀ d H2, H1 d = none → Same H1 H2 → H2 d = some (.xd [(f, v)]) → W (.ref C) (some d) σ H2) : tRaise1 C f W ta D σ H := k
theorem s_raise0 {C : Addr} {W : WX} {D : Ends} (k : W (.ref C) none σ H) : tRaise0 C W D σ H := k
theorem one_of {v : V} {R : V → Prop} (k : R v) : ∃ x, [v] = [x] ∧ R x := ⟨v, rfl, k⟩
end
end Gx

set_option Elab.async false
set_option linter.all false
set_option maxRecDepth 100000
set_option maxHeartbeats 4000000
/-! Gn: enumerate over a tuple. -/
namespace Gx
open PySem L2 PySem.Spec PyProof.Rows
theorem meets_enum1 {v : Value} {o : Obj} {H : Heap → Prop} (B : Begins v o H) :
    Meets (Builtin.«enumerate.__new__» ⟨[.type "enumerate", v], []⟩) (fun _ R s => H s.heap ∧
      R (.ok (.ret (.ref (s.heap.push o).objs.size))) { s with heap := (s.heap.push o).push { cls := .type "enumerate", data := .fields #[.none, .bool false, .ref s.heap.objs.size, rawInt 0, .none, .none] } }) :=
  .of_wp fun prog w A R s h => by
    obtain ⟨hp, g, d, tk, os⟩ := s
    obtain ⟨h1, h⟩ := h
    have hsub := sub_enumerate
    have q1 : ∀ {A' : Around} {E : Value → Shared → Prop} {Q : Value → Shared → Prop}, Q (.ref hp.objs.size) ⟨hp.push o, g, d, tk, os⟩ → wpAny (model prog w) A' (pyIter v) Q E ⟨hp, g, d, tk, os⟩ :=
      fun q => B.iter prog w _ _ ⟨hp, g, d, tk, os⟩ _ h1 q
    wp_walk using q1
    refine wpAny_stack_any fun st => wpAny_pure ?_
    split
    · rename_i c _ _ _ _ _
      cases (c == Value.type "enumerate")
      · wp_walk using q1
        exact ⟨_, rfl, h⟩
      · wp_walk using q1
        exact ⟨_, rfl, h⟩
    · wp_walk using q1
      exact ⟨_, rfl, h⟩
section
variable {prog : Program} {w : World} {A : Around} {E : Value → Shared → Prop} {s : Shared}
theorem call_enum1 {v : Value} {o : Obj} {H : Heap → Prop} {Q : Value → Shared → Prop} (B : Begins v o H) (h1 : H s.heap)
    (h : ∀ h', IsEnum h' (s.heap.objs.size + 1) s.heap.objs.size 0 .none → h'.get? s.heap.objs.size = some o → h'.objs.size = s.heap.objs.size + 2 →
      (∀ b o, s.heap.get? b = some o → h'.get? b = some o) → Q (.ref (s.heap.objs.size + 1)) { s with heap := h' }) :
    wpAny (model prog w) A (call (.type "enumerate") [v]) Q E s := by
  refine callType_new F.called_enumerate (by decide) (F.typeCall_enumerate_1 _) (F.newCall_enumerate_1 _) (fun obj => F.args_object_init_2 obj _) F.entry_enumerate_new (meets_enum1 B) ⟨h1, ?_⟩
  have hz : (s.heap.push o).objs.size = s.heap.objs.size + 1 := Heap.size_push ..
  show _ ∧ _
  rw [hz]
  have he : IsEnum ((s.heap.push o).push { cls := .type "enumerate", data := .fields #[.none, .bool false, .ref s.heap.objs.size, rawInt 0, .none, .none] }) (s.heap.objs.size + 1) s.heap.objs.size 0 .none := by
    have := Heap.get?_push_size (s.heap.push o) (o := { cls := .type "enumerate", data := .fields #[.none, .bool false, .ref s.heap.objs.size, rawInt 0, .none, .none] }) rfl
    rw [hz] at this
    exact this
  exact ⟨⟨_, he, rfl⟩, h _ he (Heap.get?_push_of_some _ (Heap.get?_push_size _ B.free)) (by rw [Heap.size_push, hz]) fun b o x => Heap.get?_push_of_some _ (Heap.get?_push_of_some _ x)⟩
end
/-- the tuple at a, each member in a new pair behind its number -/
def IteT (K : PySem.W.Frag) (a : Addr) : It :=
  ⟨fun i H => ∃ (xs : List V) (x : V), SqT K H a xs ∧ xs[i]? = some x, fun i H v H' => ∃ T x, v = .ref T ∧ H T = none ∧ H' = upd H T (.tup [.int (i : Nat), x]) ∧ ∀ xs, SqT K H a xs → xs[i]? = some x, fun i H => ∃ xs : List V, SqT K H a xs ∧ xs.length = i⟩
theorem turn_enumT {P : Program} {w : World} {K : PySem.W.Frag} {elts : List Expr} {kk : Nat} {tpos : Pos} (a e it : Addr) :
    Turn P w K (.Tuple elts kk tpos) (IteT K a) [e, it] e (fun i h => (∃ old, IsEnum h e it ((i : Nat) : Int) old) ∧ h.IsTupleIter it a i ∧ e ≠ it ∧ a ≠ it ∧ e ≠ a) where
  mem := by simp
  obj := fun i h st b hb => by
    obtain ⟨⟨old, he⟩, ⟨o, ho, hc, hd⟩, _⟩ := st
    rcases (show b = e ∨ b = it by simpa using hb) with z | z
    · rw [z]; exact ⟨_, he, fun v q => nomatch q⟩
    · rw [z]; exact ⟨o, ho, fun v q => by rw [hd] at q; cases q⟩
  keep := fun i h h' st k => let ⟨⟨old, he⟩, hi, hne⟩ := st; ⟨⟨old, k e (by simp) _ he⟩, hi.at fun o q => k it (by simp) o q, hne⟩
  item := by
    intro X hP hw hK hc i pins s σ H E I hf st hg
    subst hP hw hK
    obtain ⟨⟨old, he⟩, hit, hne, hai, hea⟩ := st
    obtain ⟨xs, x, hq, hx⟩ := hg
    obtain ⟨its, rv, p, hz⟩ := I.tuple hq
    obtain ⟨u, hu, ru⟩ := rv.get hx
    have hel : e < s.heap.objs.size := Heap.lt_size he
    have hil : it < s.heap.objs.size := by obtain ⟨_, q, _⟩ := hit; exact Heap.lt_size q
    have hh : X.A.in1.handled = none := I.ok.hd hc
    have hlt : i < its.toArray.size := by
      rw [List.size_toArray]
      exact (List.getElem?_eq_some_iff.mp hu).1
    refine wpAny_pyNext_enum_itemD (Draws.tuple hh it a hai its.toArray) he ⟨hit, p⟩ hlt hne (by simp [hne, hea]) fun y h' tk hy ho hst hT hsz hk => ?_
    have ey : y = u := by
      have : its.toArray[i]? = some u := by simpa using hu
      rw [this] at hy
      exact (Option.some.inj hy).symm
    subst ey
    refine ⟨_, rfl, wpAny_letOwnedTupleGo_enum (s := { s with heap := h', toks := tk + 1 }) ho fun h'' he' sb => ?_⟩
    have hT2 : h''.get? s.heap.objs.size = some { cls := .type "tuple", data := .seq #[.int i tk, y] } := (sb.2 _ (Nat.ne_of_gt hel)).trans hT
    have new : ObjOk X.prog X.w (upd H s.heap.objs.size (.tup [.int (i : Nat), x])) h'' s.heap.objs.size (.tup [.int (i : Nat), x]) :=
      ⟨by show 2 ≤ sizeLine; decide, [.int i tk, y], .cons ⟨_, rfl⟩ (.cons ru .nil), ⟨_, hT2, rfl, _, rfl⟩⟩
    have I1 : Inv X pins σ (upd H s.heap.objs.size (.tup [.int (i : Nat), x])) { s with heap := h'', toks := tk + 1 } :=
      I.turnedNew (ch := [e, it]) (fun b ob hb q => (sb.2 b (fun z => hb (by simp [z]))).trans (hk b ob (fun z => hb (by simp [z])) (fun z => hb (by simp [z])) q)) hf (Nat.le_refl _) new
    refine ⟨.ref s.heap.objs.size, _, I1, rfl, ⟨_, x, rfl, I.hok.fresh (Nat.le_refl _), rfl, fun ys hy => by rw [I.tuple_inj hy hq]; exact hx⟩, ⟨⟨y, ?_⟩, hst.1.at fun o q => (sb.2 it (Ne.symm hne)).trans q, hne, hai, hea⟩, fun b hb => ?_⟩
    · have e1 : ((i + 1 : Nat) : Int) = (i : Int) + 1 := by omega
      rw [e1]; exact he'
    · have hb' : b < s.heap.objs.size := by
        rcases (show b = e ∨ b = it by simpa using hb) with z | z
        · rw [z]; exact hel
        · rw [z]; exact hil
      rw [upd_ne (Nat.ne_of_lt hb')]
      exact (hf b hb).1
  done := by
    intro X hP hw hK hc i pins s σ H E I hf st hg
    subst hP hw hK
    obtain ⟨⟨old, he⟩, hit, hne, hai, hea⟩ := st
    obtain ⟨xs, hq, hx⟩ := hg
    obtain ⟨its, rv, p, hz⟩ := I.tuple hq
    obtain ⟨f0, f1, f2, f3, f4, f5⟩ := hf it (by simp)
    have hl := rv.length
    have hh : X.A.in1.handled = none := I.ok.hd hc
    have hn : i = its.toArray.size := by rw [List.size_toArray, ← hl]; exact hx.symm
    subst hn
    exact wpAny_pyNext_enum_endD (Draws.tuple hh it a hai its.toArray) he ⟨hit, p⟩ fun h' eb => ⟨rfl, I.turned (t' := s.toks) (fun b o hb q => eb b o hb q) f0 f1 f3 f4 f5⟩
  self := fun A i s Q E st h => let ⟨⟨_, he⟩, _⟩ := st; wpAny_pyIter_enum he h
def iEnumT (K : PySem.W.Frag) (ta : TA) : TI := fun σ H R => ta σ H fun vs H1 => ∃ a xs, vs = [.ref a] ∧ SqT K H1 a xs ∧ R (IteT K a) H1
theorem pi_enumT {X : Cx} {e : Expr} {ta : TA} {p pos tpos : Pos} {elts : List Expr} {kk : Nat} (hg : Gl X "enumerate") (hm : X.mg "enumerate" = none) (ha : PA X [e] ta) (hs : starEach [e] X.env = [(false, eval e X.env)] := by rfl) :
    PI X (.Tuple elts kk tpos) (.Call (.Name "enumerate" p) [e] [] pos) (iEnumT X.K ta) := by
  refine ⟨fun pins s σ H R I h => ?_⟩
  refine Call_ (ld_blt I hg hm boot_enumerate (PyProof.Rows.callWith_type1 (thn (ha.run pos pins s σ H _ I h) fun us s1 ⟨vs, H1, I1, r1, q1⟩ => ?_) hs rfl))
  obtain ⟨a, xs, rfl, hq, q⟩ := q1
  obtain ⟨u, rfl, r⟩ := vals1 r1
  cases (show u = Value.ref a from r)
  obtain ⟨its, rv, p', hz⟩ := I1.tuple hq
  have al : a < s1.heap.objs.size := by obtain ⟨o, q, _⟩ := p'; exact Heap.lt_size q
  refine call_enum1 (begins_tuple a its.toArray) p' fun h' he hit hsz hk => wpAny_pyIter_enum he ?_
  have I2 : Inv X pins σ H1 { s1 with heap := h' } := I1.kept (t' := s1.toks) hk
  refine ⟨s1.heap.objs.size + 1, [s1.heap.objs.size + 1, s1.heap.objs.size], _, _, H1, rfl, I2, turn_enumT a (s1.heap.objs.size + 1) s1.heap.objs.size, ⟨⟨.none, he⟩, ⟨_, hit, rfl, rfl⟩, Nat.succ_ne_self _, Nat.ne_of_lt al, Nat.ne_of_gt (Nat.lt_succ_of_lt al)⟩, fun b hb => ?_, q⟩
  have hle : s1.heap.objs.size ≤ b := by
    rcases (show b = s1.heap.objs.size + 1 ∨ b = s1.heap.objs.size by simpa using hb) with z | z
    · rw [z]; exact Nat.le_add_right _ _
    · rw [z]; exact Nat.le_refl _
  exact I1.fpOk hle (I1.hok.fresh hle)

section
variable {σ : L2.St} {H : Hp} {nn : L2.St → Hp → Prop} {rt : VK} {g : TG} {tb : TS} {K : PySem.W.Frag} {ta : TA}
theorem i_enum {R : It → Hp → Prop} (k : ta σ H fun vs H1 => ∃ a xs, vs = [.ref a] ∧ SqL K H1 a xs ∧ R (Ite K a) H1) : iEnum K ta σ H R := k
theorem i_enumT {R : It → Hp → Prop} (k : ta σ H fun vs H1 => ∃ a xs, vs = [.ref a] ∧ SqT K H1 a xs ∧ R (IteT K a) H1) : iEnumT K ta σ H R := k
theorem i_enum' {p : Addr} {xs : List V} {R : Addr → Prop} (h : SqL K H p xs) (k : R p) : ∃ a xs, [V.ref p] = [.ref a] ∧ SqL K H a xs ∧ R a := ⟨p, xs, rfl, h, k⟩
theorem i_enumT' {p : Addr} {xs : List V} {R : Addr → Prop} (h : SqT K H p xs) (k : R p) : ∃ a xs, [V.ref p] = [.ref a] ∧ SqT K H a xs ∧ R a := ⟨p, xs, rfl, h, k⟩
theorem f_enum {p : Addr} {xs : List V} (Pv : Nat → L2.St → Hp → Prop) (h0 : Pv 0 σ H) (hl : ∀ i σ H, i ≤ xs.length → Pv i σ H → SqL K H p xs)
    (hs : ∀ i x T σ H, xs[i]? = some x → Pv i σ H → Nw H T → g (.ref T) σ (upd H T (.tup [.int (i : Nat), x])) fun σ2 H2 => tb ⟨Pv (i + 1), rt, nn, Pv (i + 1)⟩ σ2 H2) (hd : ∀ σ H, Pv xs.length σ H → nn σ H) :
    ∃ W : Nat → Nat → L2.St → Hp → Prop, (∃ m, W 0 m σ H) ∧ ∀ i m σ H, W i m σ H →
      ((Ite K p).stop i H ∧ nn σ H) ∨ ((Ite K p).go i H ∧ ∃ N : L2.St → Hp → Prop, (∀ σ' H', N σ' H' → ∃ m', m' < m ∧ W (i + 1) m' σ' H') ∧ ∀ x H', (Ite K p).yld i H x H' → g x σ H' fun σ2 H2 => tb ⟨N, rt, nn, N⟩ σ2 H2) := by
  refine ⟨fun i m σ H => m = xs.length - i ∧ i ≤ xs.length ∧ Pv i σ H, ⟨xs.length, by simp, Nat.zero_le _, h0⟩, ?_⟩
  rintro i m σ H ⟨rfl, hi, p0⟩
  have q := hl i σ H hi p0
  by_cases hlt : i < xs.length
  · refine .inr ⟨⟨xs, xs[i], q, by simp [hlt]⟩, Pv (i + 1), fun σ' H' p' => ⟨xs.length - (i + 1), by omega, rfl, hlt, p'⟩, fun x H' y => ?_⟩
    obtain ⟨T, z, rfl, hT, rfl, hz⟩ := y
    exact hs i z T σ H (hz xs q) p0 hT
  · have e : i = xs.length := by omega
    subst e
    exact .inl ⟨⟨xs, q, Nat.le_refl _⟩, hd σ H p0⟩
theorem f_enumT {p : Addr} {xs : List V} (Pv : Nat → L2.St → Hp → Prop) (h0 : Pv 0 σ H) (hl : ∀ i σ H, i ≤ xs.length → Pv i σ H → SqT K H p xs)
    (hs : ∀ i x T σ H, xs[i]? = some x → Pv i σ H → Nw H T → g (.ref T) σ (upd H T (.tup [.int (i : Nat), x])) fun σ2 H2 => tb ⟨Pv (i + 1), rt, nn, Pv (i + 1)⟩ σ2 H2) (hd : ∀ σ H, Pv xs.length σ H → nn σ H) :
    ∃ W : Nat → Nat → L2.St → Hp → Prop, (∃ m, W 0 m σ H) ∧ ∀ i m σ H, W i m σ H →
      ((IteT K p).stop i H ∧ nn σ H) ∨ ((IteT K p).go i H ∧ ∃ N : L2.St → Hp → Prop, (∀ σ' H', N σ' H' → ∃ m', m' < m ∧ W (i + 1) m' σ' H') ∧ ∀ x H', (IteT K p).yld i H x H' → g x σ H' fun σ2 H2 => tb ⟨N, rt, nn, N⟩ σ2 H2) := by
  refine ⟨fun i m σ H => m = xs.length - i ∧ i ≤ xs.length ∧ Pv i σ H, ⟨xs.length, by simp, Nat.zero_le _, h0⟩, ?_⟩
  rintro i m σ H ⟨rfl, hi, p0⟩
  have q := hl i σ H hi p0
  by_cases hlt : i < xs.length
  · refine .inr ⟨⟨xs, xs[i], q, by simp [hlt]⟩, Pv (i + 1), fun σ' H' p' => ⟨xs.length - (i + 1), by omega, rfl, hlt, p'⟩, fun x H' y => ?_⟩
    obtain ⟨T, z, rfl, hT, rfl, hz⟩ := y
    exact hs i z T σ H (hz xs q) p0 hT
  · have e : i = xs.length := by omega
    subst e
    exact .inl ⟨⟨xs, q, rfl⟩, hd σ H p0⟩
theorem g_tup {n : Nat} {t : TGs} {p : Addr} {xs : List V} {Q : L2.St → Hp → Prop} (h : H p = some (.tup xs)) (hl : xs.length = n) (k : t xs σ H Q) : gTup K n t (.ref p) σ H Q := ⟨p, xs, rfl, SqT.of h, hl, k⟩
theorem g_cons {t : TG} {u : TGs} {v : V} {r : List V} {Q : L2.St → Hp → Prop} (k : t v σ H fun σ' H' => u r σ' H' Q) : gCons t u (v :: r) σ H Q := ⟨v, r, rfl, k⟩
theorem g_nil {Q : L2.St → Hp → Prop} (k : Q σ H) : gNil [] σ H Q := ⟨rfl, k⟩
end
end Gx
namespace Gx
open PySem L2 PySem.Spec PyProof.Rows
/-! ### the same rules with the written part named -/
section
variable {X : Cx}
theorem k_add (K : PySem.W.Frag) (hK : X.K = K := by rfl) : OpR X (binaryOp .Add) (rAddG K) := by subst hK; exact op_addG
theorem k_eq (K : PySem.W.Frag) (hu : X.A.units + 64 < cLine) (hK : X.K = K := by rfl) : OpR X (compareOp .Eq) (rEqG K) := by subst hK; exact op_eqG hu
theorem k_ne (K : PySem.W.Frag) (hu : X.A.units + 64 < cLine) (hK : X.K = K := by rfl) : OpR X (compareOp .NotEq) (rNeG K) := by subst hK; exact op_neG hu
theorem k_in (K : PySem.W.Frag) (hK : X.K = K := by rfl) : OpR X (compareOp .In) (rIn K false) := by subst hK; exact op_in_seq
theorem k_nin (K : PySem.W.Frag) (hK : X.K = K := by rfl) : OpR X (compareOp .NotIn) (rIn K true) := by subst hK; exact op_notIn_seq
theorem k_isi (K : PySem.W.Frag) (hK : X.K = K := by rfl) : CallR X (.builtin "isinstance") (rIsiG K) := by subst hK; exact call_isiG
theorem k_len (K : PySem.W.Frag) (hK : X.K = K := by rfl) : CallR X (.builtin "len") (rLenG K) := by subst hK; exact call_lenG
theorem k_list (K : PySem.W.Frag) (hK : X.K = K := by rfl) : CallR X (.type "list") (rListG K) := by subst hK; exact call_listG
theorem k_tup (K : PySem.W.Frag) (hK : X.K = K := by rfl) : CallR X (.type "tuple") (rTupG K) := by subst hK; exact call_tupG
theorem k_ix (K : PySem.W.Frag) (hK : X.K = K := by rfl) : IxR X (rIx K) := by subst hK; exact ix_seq
theorem k_sl (K : PySem.W.Frag) (hK : X.K = K := by rfl) : SlR X (rSlG K) := by subst hK; exact sl_G
end
section
variable {X : Cx} {e tg : Expr} {te : TE}
theorem kp_list (K : PySem.W.Frag) (h : PE X e te) (hK : X.K = K := by rfl) : PI X tg e (iList K te) := by subst hK; exact pi_list h
theorem kp_tup (K : PySem.W.Frag) (h : PE X e te) (hK : X.K = K := by rfl) : PI X tg e (iTup K te) := by subst hK; exact pi_tup h
theorem kp_enum {e : Expr} {ta : TA} {p pos tpos : Pos} {elts : List Expr} {kk : Nat} (K : PySem.W.Frag) (hg : Gl X "enumerate") (hm : X.mg "enumerate" = none) (ha : PA X [e] ta) (hs : starEach [e] X.env = [(false, eval e X.env)] := by rfl) (hK : X.K = K := by rfl) :
    PI X (.Tuple elts kk tpos) (.Call (.Name "enumerate" p) [e] [] pos) (iEnum K ta) := by subst hK; exact pi_enum hg hm ha hs
theorem kp_enumT {e : Expr} {ta : TA} {p pos tpos : Pos} {elts : List Expr} {kk : Nat} (K : PySem.W.Frag) (hg : Gl X "enumerate") (hm : X.mg "enumerate" = none) (ha : PA X [e] ta) (hs : starEach [e] X.env = [(false, eval e X.env)] := by rfl) (hK : X.K = K := by rfl) :
    PI X (.Tuple elts kk tpos) (.Call (.Name "enumerate" p) [e] [] pos) (iEnumT K ta) := by subst hK; exact pi_enumT hg hm ha hs
theorem kg_tup {es : List Expr} {k : Nat} {t : TGs} {n : Nat} {pos : Pos} (K : PySem.W.Frag) (hc : X.calm = true) (h : PGs X es t) (hn : (assignEach es X.env).length = n := by rfl) (hst : (assignEach es X.env).findIdx? (·.1) = none := by rfl) (hK : X.K = K := by rfl) : PG X (.Tuple es k pos) (gTup K n t) := by subst hK; exact pg_tup hc h hn hst
theorem kp_fld {f : Str} {pos : Pos} (K : PySem.W.Frag) (he : PE X e te) (hb : attributeBase e f X.env (eval e X.env) = eval e X.env) (hK : X.K = K := by rfl) : PE X (.Attribute e f pos) (tFld K te f) := by subst hK; exact pe_fld he hb
theorem kp_revL {k : Nat} {p1 p2 p3 pos : Pos} (K : PySem.W.Frag) (he : PE X e te) (hK : X.K = K := by rfl) : PE X (.Subscript e (.Slice none none (some (.UnaryOp .USub (.Constant (.int 1) k p1) p2)) p3) pos) (tRevL K te) := by subst hK; exact pe_revL he
end
end Gx
namespace Gx
open PySem L2 PySem.Spec PyProof.Rows
/-- a list or a tuple of these values stands at p -/
def SeqAt' (H : Hp) (p : Addr) (xs : List V) : Prop := H p = some (.lst xs) ∨ H p = some (.tup xs)
theorem SeqAt'.keep {H H' : Hp} {p : Addr} {xs : List V} (h : SeqAt' H p xs) (k : ∀ o, H p = some o → H' p = some o) : SeqAt' H' p xs := h.elim (fun e => .inl (k _ e)) fun e => .inr (k _ e)
theorem SeqAt'.same {H H' : Hp} {p : Addr} {xs : List V} (h : SeqAt' H p xs) (s : Same H H') : SeqAt' H' p xs := h.keep fun o e => s p o e
section
variable {σ : L2.St} {H : Hp} {nn : L2.St → Hp → Prop} {rt : VK} {g : TG} {tb : TS} {K : PySem.W.Frag} {p : Addr} {xs : List V} {j : Nat}
theorem o_enum (hv : σ[j]? = some (some (.ref p))) (hp : SeqAt' H p xs) (Pv : Nat → L2.St → Hp → Prop) (h0 : Pv 0 σ H) (hl : ∀ i σ' H', i ≤ xs.length → Pv i σ' H' → ∀ o, H p = some o → H' p = some o)
    (hs : ∀ i x T σ H, xs[i]? = some x → Pv i σ H → Nw H T → g (.ref T) σ (upd H T (.tup [.int (i : Nat), x])) fun σ2 H2 => tb ⟨Pv (i + 1), rt, nn, Pv (i + 1)⟩ σ2 H2) (hd : ∀ σ H, Pv xs.length σ H → nn σ H) :
    iOr (iEnum K (tCons (tVar j) tNil)) (iEnumT K (tCons (tVar j) tNil)) σ H fun J H1 => ∃ W : Nat → Nat → L2.St → Hp → Prop, (∃ m, W 0 m σ H1) ∧ ∀ i m σ H, W i m σ H →
      (J.stop i H ∧ nn σ H) ∨ (J.go i H ∧ ∃ N : L2.St → Hp → Prop, (∀ σ' H', N σ' H' → ∃ m', m' < m ∧ W (i + 1) m' σ' H') ∧ ∀ x H', J.yld i H x H' → g x σ H' fun σ2 H2 => tb ⟨N, rt, nn, N⟩ σ2 H2) := by
  rcases hp with h | h
  · exact .inl (i_enum (e_cons (e_var hv (e_nil (i_enum' (SqL.of h) (f_enum Pv h0 (fun i σ H i1 q => SqL.of (hl i σ H i1 q _ h)) hs hd))))))
  · exact .inr (i_enumT (e_cons (e_var hv (e_nil (i_enumT' (SqT.of h) (f_enumT Pv h0 (fun i σ H i1 q => SqT.of (hl i σ H i1 q _ h)) hs hd))))))
theorem o_for (hv : σ[j]? = some (some (.ref p))) (hp : SeqAt' H p xs) (Pv : Nat → L2.St → Hp → Prop) (h0 : Pv 0 σ H) (hl : ∀ i σ' H', i ≤ xs.length → Pv i σ' H' → ∀ o, H p = some o → H' p = some o)
    (hs : ∀ i x σ H, xs[i]? = some x → Pv i σ H → g x σ H fun σ2 H2 => tb ⟨Pv (i + 1), rt, nn, Pv (i + 1)⟩ σ2 H2) (hd : ∀ σ H, Pv xs.length σ H → nn σ H) :
    iOr (iList K (tVar j)) (iTup K (tVar j)) σ H fun J H1 => ∃ W : Nat → Nat → L2.St → Hp → Prop, (∃ m, W 0 m σ H1) ∧ ∀ i m σ H, W i m σ H →
      (J.stop i H ∧ nn σ H) ∨ (J.go i H ∧ ∃ N : L2.St → Hp → Prop, (∀ σ' H', N σ' H' → ∃ m', m' < m ∧ W (i + 1) m' σ' H') ∧ ∀ x H', J.yld i H x H' → g x σ H' fun σ2 H2 => tb ⟨N, rt, nn, N⟩ σ2 H2) := by
  rcases hp with h | h
  · exact .inl (i_list (e_var hv (i_list' (SqL.of h) (f_list Pv h0 (fun i σ H i1 q => SqL.of (hl i σ H i1 q _ h)) hs hd))))
  · exact .inr (i_tup (e_var hv (i_tup' (SqT.of h) (f_tup Pv h0 (fun i σ H i1 q => SqT.of (hl i σ H i1 q _ h)) hs hd))))
/- slices and copies of either -/
theorem r_lenS {Q : VK} (h : SeqAt' H p xs) (k : Q (.int (xs.length : Int)) H) : rLenG K [.ref p] H Q := h.elim (fun e => r_lenL e k) fun e => r_lenT e k
theorem r_ixS {Q : VK} {i : Int} {v : V} (h : SeqAt' H p xs) (ha : atI xs i = some v) (k : Q v H) : rIx K (.ref p) (.int i) H Q := h.elim (fun e => r_ixL' e ha k) fun e => r_ixT' e ha k
theorem r_listS {Q : VK} (h : SeqAt' H p xs) (k : ∀ l, Nw H l → Q (.ref l) (upd H l (.lst xs))) : rListG K [.ref p] H Q := h.elim (fun e => r_listL (SqL.of e) k) fun e => r_listT (SqT.of e) k
/-- a slice: a new list, or a tuple (new or the whole one) -/
theorem r_slS {Q : VK} {lo hi : Option Int} (h : SeqAt' H p xs) (k : ∀ q H', Same H H' → SeqAt' H' q (cutV xs lo hi) → (H q = none ∨ (q = p ∧ H p = some (.tup xs))) → Q (.ref q) H') : rSlG K (.ref p) lo hi H Q := by
  rcases h with h | h
  · exact .inl ⟨p, xs, rfl, SqL.of h, fun q hq => k q _ (same_new hq) (.inl upd_same) (.inl hq)⟩
  · refine .inr ⟨p, xs, rfl, SqT.of h, fun e => ?_, fun _ q hq => k q _ (same_new hq) (.inr upd_same) (.inl hq)⟩
    refine k p H (Same.refl H) (.inr ?_) (.inr ⟨rfl, h⟩)
    have e2 : cutV xs lo hi = xs := by
      unfold cutV
      rw [e.1, e.2]
      simp
    rw [e2]
    exact h
theorem r_tupS {Q : VK} (h : SeqAt' H p xs) (k : ∀ q H', Same H H' → H' q = some (.tup xs) → (H q = none ∨ (q = p ∧ H p = some (.tup xs))) → Q (.ref q) H') : rTupG K [.ref p] H Q := by
  rcases h with h | h
  · exact r_tupL (SqL.of h) fun q hq => k q _ (same_new hq) upd_same (.inl hq)
  · exact r_tupT (SqT.of h) (k p H (Same.refl H) h (.inr ⟨rfl, h⟩))
theorem DvL.drop : ∀ {ds : List D} {vs : List V} (n : Nat), DvL H vs ds → DvL H (vs.drop n) (ds.drop n)
  | ds, vs, 0, q => by simpa using q
  | [], vs, n + 1, q => by rw [show vs = [] from q]; rfl
  | d :: ds, _, n + 1, ⟨v, r, e, q, t⟩ => by rw [e]; simpa using DvL.drop n t
theorem DvL.take : ∀ {ds : List D} {vs : List V} (n : Nat), DvL H vs ds → DvL H (vs.take n) (ds.take n)
  | ds, vs, 0, q => by simp; rfl
  | [], vs, n + 1, q => by rw [show vs = [] from q]; rfl
  | d :: ds, _, n + 1, ⟨v, r, e, q, t⟩ => by
    rw [e, List.take_succ_cons, List.take_succ_cons]
    exact ⟨v, _, rfl, q, DvL.take n t⟩
theorem cut_mid {i s : Nat} (h : i + s ≤ xs.length) : cutV xs (some (i : Int)) (some ((i : Int) + (s : Int))) = (xs.drop i).take s := by
  have e : (i : Int) + (s : Int) = ((i + s : Nat) : Int) := by omega
  unfold cutV
  rw [e, HT.sIx_nat, HT.sIx_nat, show min (i + s) xs.length = i + s by omega, show min i xs.length = i by omega, Nat.add_sub_cancel_left]
theorem cut_from {k : Nat} : cutV xs (some (k : Int)) none = xs.drop k := by
  unfold cutV
  rw [HT.sIx_nat, HT.sIx_none]
  by_cases h : k ≤ xs.length
  · rw [Nat.min_eq_left h, List.take_of_length_le (by rw [List.length_drop]; exact Nat.le_refl _)]
  · rw [Nat.min_eq_right (by omega), List.drop_length, List.drop_eq_nil_of_le (by omega), List.take_nil]
theorem cut_to {k : Nat} : cutV xs none (some (k : Int)) = xs.take k := by
  unfold cutV
  rw [HT.sIx_nat, HT.sIx_none, List.drop_zero, Nat.sub_zero]
  by_cases h : k ≤ xs.length
  · rw [Nat.min_eq_left h]
  · rw [Nat.min_eq_right (by omega), List.take_length, List.take_of_length_le (by omega)]
end
/- comprehensions over a range -/
theorem c_range {lo : Int} {n : Nat} {g : TG} {tt : TT} {te : TE} {vs : List Nat} {σ : L2.St} {H1 : Hp} {D : Addr} {Qd : Hp → Prop} (Pv : Nat → Hp → Prop) (h0 : Pv 0 (upd H1 D (.lst [])))
    (hs : ∀ i H, i < n → Pv i H → g (.int (lo + i)) (wipe σ vs) H fun σ2 H2 => wipe σ2 vs = wipe σ vs ∧ tt σ2 H2 fun b H3 =>
      if b = true then te σ2 H3 fun y H4 => ∃ acc, H4 D = some (.lst acc) ∧ acc.length < sizeLine ∧ Pv (i + 1) (upd H4 D (.lst (acc ++ [y]))) else Pv (i + 1) H3) (hd : ∀ H, Pv n H → Qd H) :
    ∃ W : Nat → Nat → Hp → Prop, (∃ m, W 0 m (upd H1 D (.lst []))) ∧ ∀ i m H, W i m H →
      ((Itr lo n).stop i H ∧ Qd H) ∨ ((Itr lo n).go i H ∧ ∃ Nx : Hp → Prop, (∀ H', Nx H' → ∃ m', m' < m ∧ W (i + 1) m' H') ∧ ∀ x H', (Itr lo n).yld i H x H' → g x (wipe σ vs) H' fun σ2 H2 => wipe σ2 vs = wipe σ vs ∧ tt σ2 H2 fun b H3 =>
        if b = true then te σ2 H3 fun y H4 => ∃ acc, H4 D = some (.lst acc) ∧ acc.length < sizeLine ∧ Nx (upd H4 D (.lst (acc ++ [y]))) else Nx H3) := lc_range Pv h0 hs hd
end Gx
namespace Gx
open PySem L2 PySem.Spec PyProof.Rows
theorem k_isX {X : Cx} {a : Addr} {cls : Value} {d : Option Addr} {oe : Obj} {pn : List (Addr × Obj)} (K : PySem.W.Frag) (hz : Zc cls d oe) (hf : ∃ vs, oe.data = .fields vs) (hK : X.K = K := by rfl) : CallR (X.suite a ((a, oe) :: pn)) (.builtin "isinstance") (rIsXG K a cls d) := by
  subst hK; exact call_isX hz hf
theorem nw_seq {H : Hp} {p : Addr} {o : HO} {q : Addr} {xs : List V} (h : Nw H p) (s : SeqAt' H q xs) : SeqAt' (upd H p o) q xs := s.same (nw_new h)
theorem tup3 {H : Hp} {p : Addr} {a b c : V} {da db dc : D} (h : H p = some (.tup [a, b, c])) (ha : Dv H a da) (hb : Dv H b db) (hc : Dv H c dc) : Dv H (.ref p) (.tup [da, db, dc]) :=
  ⟨p, _, rfl, h, (by show 3 ≤ sizeLine; decide), a, _, rfl, ha, b, _, rfl, hb, c, _, rfl, hc, rfl⟩
end Gx
namespace Gx
open PySem L2 PySem.Spec PyProof.Rows
theorem and_eqw {l l' : L2.St} {R : Prop} (h : l = l') (k : R) : l = l' ∧ R := ⟨h, k⟩
section
variable {H : Hp} {Q : VK} {K : PySem.W.Frag} {p : Addr} {xs : List V}
theorem r_slT {lo hi : Option Int} (h : H p = some (.tup xs)) (k : ∀ q H', Same H H' → H' q = some (.tup (cutV xs lo hi)) → Q (.ref q) H') : rSlG K (.ref p) lo hi H Q := by
  refine .inr ⟨p, xs, rfl, SqT.of h, fun e => ?_, fun _ q hq => k q _ (same_new hq) upd_same⟩
  refine k p H (Same.refl H) ?_
  have e2 : cutV xs lo hi = xs := by
    unfold cutV
    rw [e.1, e.2]
    simp
  rw [e2]
  exact h
theorem r_slL {lo hi : Option Int} (h : SqL K H p xs) (k : ∀ q, Nw H q → Q (.ref q) (upd H q (.lst (cutV xs lo hi)))) : rSlG K (.ref p) lo hi H Q := .inl ⟨p, xs, rfl, h, fun q hq => k q hq⟩
theorem r_addT {a b : Addr} {xs ys : List V} (ha : H a = some (.tup xs)) (hb : H b = some (.tup ys)) (h : xs.length + ys.length ≤ sizeLine) (k : ∀ q H', Same H H' → H' q = some (.tup (xs ++ ys)) → Q (.ref q) H') : rAddG K (.ref a) (.ref b) H Q := by
  refine .inr (.inr (.inr ⟨a, b, xs, ys, rfl, rfl, SqT.of ha, SqT.of hb, h, fun e => ?_, fun _ e => ?_, fun _ _ q hq => k q _ (same_new hq) upd_same⟩))
  · subst e
    exact k b H (Same.refl H) (by simpa using hb)
  · subst e
    exact k a H (Same.refl H) (by simpa using ha)
theorem r_addL' {a b : Addr} {xs ys : List V} (ha : H a = some (.lst xs)) (hb : H b = some (.lst ys)) (h : xs.length + ys.length ≤ sizeLine) (k : ∀ p, Nw H p → Q (.ref p) (upd H p (.lst (xs ++ ys)))) : rAddG K (.ref a) (.ref b) H Q := r_addL ha hb h k
theorem r_rep {l : Addr} {n : Int} (h : H l = some (.lst xs)) (h1 : -(2 ^ 63) ≤ n) (h2 : n < 2 ^ 63) (h3 : xs.length * n.toNat ≤ sizeLine) (k : ∀ q, Nw H q → Q (.ref q) (upd H q (.lst (List.replicate n.toNat xs).flatten))) : rMulG (.ref l) (.int n) H Q := .inr ⟨l, n, xs, rfl, rfl, h, h1, h2, h3, fun q hq => k q hq⟩
end
theorem c_list {K : PySem.W.Frag} {a : Addr} {xs : List V} {g : TG} {tt : TT} {te : TE} {vs : List Nat} {σ : L2.St} {H1 : Hp} {D : Addr} {Qd : Hp → Prop} (Pv : Nat → Hp → Prop) (h0 : Pv 0 (upd H1 D (.lst []))) (hl : ∀ i H, i ≤ xs.length → Pv i H → SqL K H a xs)
    (hs : ∀ i x H, xs[i]? = some x → Pv i H → g x (wipe σ vs) H fun σ2 H2 => wipe σ2 vs = wipe σ vs ∧ tt σ2 H2 fun b H3 =>
      if b = true then te σ2 H3 fun y H4 => ∃ acc, H4 D = some (.lst acc) ∧ acc.length < sizeLine ∧ Pv (i + 1) (upd H4 D (.lst (acc ++ [y]))) else Pv (i + 1) H3) (hd : ∀ H, Pv xs.length H → Qd H) :
    ∃ W : Nat → Nat → Hp → Prop, (∃ m, W 0 m (upd H1 D (.lst []))) ∧ ∀ i m H, W i m H →
      ((Itl K a).stop i H ∧ Qd H) ∨ ((Itl K a).go i H ∧ ∃ Nx : Hp → Prop, (∀ H', Nx H' → ∃ m', m' < m ∧ W (i + 1) m' H') ∧ ∀ x H', (Itl K a).yld i H x H' → g x (wipe σ vs) H' fun σ2 H2 => wipe σ2 vs = wipe σ vs ∧ tt σ2 H2 fun b H3 =>
        if b = true then te σ2 H3 fun y H4 => ∃ acc, H4 D = some (.lst acc) ∧ acc.length < sizeLine ∧ Nx (upd H4 D (.lst (acc ++ [y]))) else Nx H3) := lc_list Pv h0 hl hs hd
theorem and_tyL {K : PySem.W.Frag} {H : Hp} {p : Addr} {xs : List V} {R : Prop} (h : H p = some (.lst xs)) (k : R) : tyV K "list" (.ref p) H ∧ R := ⟨.inl ⟨rfl, xs, SqL.of h⟩, k⟩
theorem vint_inj {a b : Int} (h : V.int a = V.int b) : a = b := by injection h
theorem vint_ne {a b : Int} (h : ¬ V.int a = V.int b) : a ≠ b := fun z => h (by rw [z])
end Gx

set_option Elab.async false
set_option linter.all false
set_option maxRecDepth 100000
set_option maxHeartbeats 4000000
/-! The head of a law: each fact that the texts lean on is a test of the written part, all of them run once by the kernel. -/
namespace Gx
open PySem PySem.Spec PyProof.Rows L2 He
abbrev Ck : Type := PySem.W.Frag → Bool
/-- a def: how its address is found, its names, parameters, body, scope, defaults -/
structure DefE where
  adr : PySem.W.Frag → Addr
  nm : Str
  qual : Str
  args : Arguments
  stmts : List Stmt
  sc : Scope
  dfl : List He.Dv
/-- the getter of a property -/
def prAd (K : PySem.W.Frag) (C m : Str) : Addr := match PySem.W.recIn K (ma K (ga K C) m) "property" with
  | some (.ref g :: _) => g
  | _ => 0
def seenAt (K : PySem.W.Frag) (f : Addr) : FnW := match K.lookup f with
  | some ⟨_, _, .func z, _⟩ => some (z.name, z.qualname, z.params, z.body, z.scope, z.globals, z.closure, z.builtins)
  | _ => none
def DefE.due (d : DefE) : FnW := some (d.nm, d.qual, d.args, .stmts d.stmts, d.sc, mainGlobals, [], builtinsNs)
def DefE.dv (K : PySem.W.Frag) (d : DefE) : List V := d.dfl.map (He.Dv.v K)
def DefE.fits (K : PySem.W.Frag) (d : DefE) : Bool := PySem.W.keepIn K (.ref (d.adr K)) && (match K.lookup (d.adr K) with
  | some ⟨_, _, .func z, _⟩ => PySem.W.codeIn K z.code d.qual && dflB K z.defaults (d.dv K)
  | _ => false)
theorem DefE.says {K : PySem.W.Frag} {d : DefE} (e : seenAt K (d.adr K) = d.due) (c : d.fits K = true) : ∃ fd, FunD K d.nm d.qual d.args d.stmts d.sc (d.dv K) [] (d.adr K) fd := by
  obtain ⟨kp, c2⟩ := ba c
  unfold seenAt at e
  cases q : K.lookup (d.adr K) with
  | none => rw [q] at c2; cases c2
  | some o =>
    obtain ⟨oc, od, dt, osl⟩ := o
    rw [q] at c2 e
    cases dt with
    | func z =>
      obtain ⟨z1, z2, z3, z4, z5, z6, z7, z8, z9, z10, z11, z12, z13, z14, z15⟩ := z
      have e2 : (some (z1, z2, z3, z4, z5, z6, z7, z15) : FnW) = some (d.nm, d.qual, d.args, .stmts d.stmts, d.sc, mainGlobals, [], builtinsNs) := e
      simp only [Option.some.injEq, Prod.mk.injEq] at e2
      obtain ⟨y1, y2, y3, y4, y5, y6, y7, y8⟩ := e2
      subst y1 y2 y3 y4 y5 y6 y7 y8
      obtain ⟨k1, k3⟩ := ba (show (PySem.W.codeIn K z13 d.qual && dflB K z8 (d.dv K)) = true from c2)
      exact ⟨_, ⟨oc, od, z8, z9, z10, z11, z12, z13, z14, osl, rfl, q, k1, dflB_ok k3, .inl rfl⟩, kp⟩
    | _ => cases c2
abbrev AlB : Type := Bool × List FnW
def obsB (ch : List Ck) (fn : List DefE) (K : PySem.W.Frag) : AlB := ((ch.all fun f => f K) && fn.all fun d => d.fits K, fn.map fun d => seenAt K (d.adr K))
def valB (fn : List DefE) : AlB := (true, fn.map DefE.due)
def SaysB (ch : List Ck) (fn : List DefE) (K : PySem.W.Frag) : Prop := obsB ch fn K = valB fn
def obsBG (n : Nat) (ch : List Ck) (fn : List DefE) (g : Addr → Option Obj) : AlB := obsB ch fn (frG g (asD g n))
def hookB (n : Nat) (ch : List Ck) (fn : List DefE) : PySem.W.Hook where
  α := AlB
  obs := fun s => obsBG n ch fn s.heap.get?
  val := fun _ => valB fn
  says := fun _ h => ∃ K : PySem.W.Frag, K.In h ∧ SaysB ch fn K
  of := fun _ _ e => ⟨_, frG_in, e⟩
  keeps := fun _ _ _ ⟨K, hK, c⟩ k => ⟨K, PySem.W.Frag.In.keeps hK k, c⟩
theorem obsBG_eq {n : Nat} {ch : List Ck} {fn : List DefE} {g : Addr → Option Obj} {s : Shared} (h : ∀ a, g a = s.heap.get? a) : obsBG n ch fn g = (hookB n ch fn).obs s := by
  have e : g = s.heap.get? := funext h
  rw [e] <;> rfl
section
variable {ch : List Ck} {fn : List DefE} {K : PySem.W.Frag}
theorem SaysB.ck (c : SaysB ch fn K) (i : Nat) {f : Ck} (h : ch[i]? = some f := by rfl) : f K = true := by
  have c1 := (ba (show ((ch.all fun f => f K) && fn.all fun d => d.fits K) = true from congrArg (fun z : AlB => z.1) c)).1
  exact List.all_eq_true.mp c1 f (List.mem_of_getElem? h)
theorem SaysB.def_ (c : SaysB ch fn K) (i : Nat) {d : DefE} (h : fn[i]? = some d := by rfl) : ∃ fd, FunD K d.nm d.qual d.args d.stmts d.sc (d.dv K) [] (d.adr K) fd := by
  have c2 := (ba (show ((ch.all fun f => f K) && fn.all fun d => d.fits K) = true from congrArg (fun z : AlB => z.1) c)).2
  have e : (fn.map fun d => seenAt K (d.adr K)) = fn.map DefE.due := congrArg (fun z : AlB => z.2) c
  have e2 : (fn.map fun d => seenAt K (d.adr K))[i]? = (fn.map DefE.due)[i]? := by rw [e]
  rw [List.getElem?_map, List.getElem?_map, h] at e2
  exact DefE.says (Option.some.inj e2) (List.all_eq_true.mp c2 d (List.mem_of_getElem? h))
end
/-! ### facts -/
variable {K : PySem.W.Frag} {h : Heap} {mg : Str → Option Value}
def eqB {α : Type} [DecidableEq α] (a b : α) : Bool := decide (a = b)
theorem eqB_ok {α : Type} [DecidableEq α] {a b : α} (h : eqB a b = true) : a = b := of_decide_eq_true h
def cFa (f : Fa) : Ck := fun K => f.ok K
def cTy (x : Str) : Ck := fun K => decide (PySem.W.typeIn K (.ref (ga K x)) = some (.type "type"))
def cKv (x : Str) : Ck := fun K => decide (PySem.W.kitOne K (.ref (ga K x)) (.type "ValueError") = some true)
def cKit (x y : Str) (b : Bool) : Ck := fun K => decide (PySem.W.kitOne K (.ref (ga K x)) (.ref (ga K y)) = some b)
def cExc (x : Str) : Ck := fun K => PySem.W.excIn K (ga K x) veBase "ValueError.__new__"
def cInit (x : Str) : Ck := fun K => eqO (PySem.W.findIn K (.ref (ga K x)) "__init__") (some (some (.ref (ma K (ga K x) "__init__")))) && decide (PySem.W.typeIn K (.ref (ma K (ga K x) "__init__")) = some (.type "function"))
def exCB (K : PySem.W.Frag) (D : Addr) : Bool :=
  eqO (PySem.W.findIn K (.ref D) "__getattribute__") (some (some (.builtin "BaseException.__getattribute__"))) && (eqO (PySem.W.findIn K (.ref D) "__getattr__") (some none) &&
  (decide (PySem.W.subIn K (.ref D) (.type "BaseException") = some true) && (PySem.W.hasDictIn K D && (eqO (PySem.W.findIn K (.ref D) "__class__") (some (some (.builtin "object.__class__"))) &&
  (eqO (PySem.W.specialIn K (.builtin "object.__class__") "__get__") (some (some (.builtin "getset_descriptor.__get__"))) && (decide (PySem.W.takesIn K (.builtin "object.__class__") = some true) && decide (PySem.W.mroIn K D (.type "object") = some true)))))))
theorem exCB_ok {D : Addr} (c : exCB K D = true) : ExC K D := by
  obtain ⟨c1, c⟩ := ba c
  obtain ⟨c2, c⟩ := ba c
  obtain ⟨c3, c⟩ := ba c
  obtain ⟨c4, c⟩ := ba c
  obtain ⟨c5, c⟩ := ba c
  obtain ⟨c6, c⟩ := ba c
  obtain ⟨c7, c8⟩ := ba c
  exact ⟨eqO_ok c1, eqO_ok c2, of_decide_eq_true c3, c4, eqO_ok c5, eqO_ok c6, of_decide_eq_true c7, of_decide_eq_true c8⟩
def cExC (x : Str) : Ck := fun K => exCB K (ga K x)
def slB : List (Option Value) → Bool
  | [_, _, _, _, some (.builtin n), _] => decide (n = "ValueError.__new__")
  | _ => false
def mroB (C : Addr) : List Value → Bool
  | .ref C' :: bm => decide (C' = C) && PySem.HandSPX.refsVE bm
  | _ => false
def oexB (K : PySem.W.Frag) (C : Addr) : Bool := (match K.lookup C with
  | some ⟨.type t, _, .cls cd, sl⟩ => decide (t = "type") && (mroB C cd.mro && (cd.hasDict && (!cd.hasDel && slB sl.toList)))
  | _ => false) && (eqO (PySem.W.findIn K (.ref C) "__setattr__") (some (some (.builtin "object.__setattr__"))) &&
  (decide (PySem.W.subIn K (.ref C) (.type "BaseException") = some true) && (decide (PySem.W.typeIn K (.ref C) = some (.type "type")) && PySem.W.keepIn K (.ref C))))
theorem oexB_ok {C : Addr} (c : oexB K C = true) : OexC K C := by
  obtain ⟨c1, c⟩ := ba c
  obtain ⟨c2, c⟩ := ba c
  obtain ⟨c3, c⟩ := ba c
  obtain ⟨c4, c5⟩ := ba c
  refine ⟨?_, eqO_ok c2, of_decide_eq_true c3, of_decide_eq_true c4, c5⟩
  cases q : K.lookup C with
  | none => rw [q] at c1; cases c1
  | some o =>
    obtain ⟨oc, od, dt, sl⟩ := o
    rw [q] at c1
    cases oc with
    | type t =>
      cases dt with
      | cls cd =>
        obtain ⟨d1, d⟩ := ba (show (decide (t = "type") && (mroB C cd.mro && (cd.hasDict && (!cd.hasDel && slB sl.toList)))) = true from c1)
        obtain ⟨d2, d⟩ := ba d
        obtain ⟨d3, d⟩ := ba d
        obtain ⟨d4, d5⟩ := ba d
        have e1 := of_decide_eq_true d1
        subst e1
        obtain ⟨l⟩ := sl
        have d5' : slB l = true := d5
        clear c1
        obtain ⟨nm, bs, mro, ns, qn, hd, sn, sub, ab, col, del⟩ := cd
        have d3' : hd = true := d3
        subst d3'
        have d4' : del = false := by
          cases del
          · rfl
          · cases d4
        subst d4'
        have d2' : mroB C mro = true := d2
        match mro, d2' with
        | .ref C' :: bm, d2' =>
          obtain ⟨f1, f2⟩ := ba (show (decide (C' = C) && PySem.HandSPX.refsVE bm) = true from d2')
          have e2 := of_decide_eq_true f1
          subst e2
          match l, d5' with
          | [k0, k1, k2, k3, some (.builtin n), k5], d5' =>
            have e3 : n = "ValueError.__new__" := of_decide_eq_true d5'
            subst e3
            exact ⟨_, _, _, _, _, _, _, _, _, _, _, _, _, _, _, rfl, f2⟩
      | _ => cases c1
    | _ => cases c1
def cOex (x : Str) : Ck := fun K => oexB K (ga K x)
theorem funD_fun {x qual : Str} {st : Stmt} {f : Addr} {fd : FuncData} (F : FunD K x qual (defArgs st) (defBody st) (defScope st) [] [] f fd) : Fun K x qual st f fd := by
  obtain ⟨oc, od, dV, kV, doc, pm, an, cdv, ct, osl, rfl, lk, hcd, hD, _⟩ := F.ex
  rcases hD with ⟨_, rfl⟩ | ⟨e, _⟩
  · exact ⟨⟨oc, od, kV, doc, pm, an, cdv, ct, osl, rfl, lk, hcd⟩, F.kp⟩
  · exact absurd rfl e
theorem ini_ok {x : Str} (c : cInit x K = true) : PySem.W.findIn K (.ref (ga K x)) "__init__" = some (some (.ref (ma K (ga K x) "__init__"))) ∧ PySem.W.typeIn K (.ref (ma K (ga K x) "__init__")) = some (.type "function") := by
  obtain ⟨c1, c2⟩ := ba c
  exact ⟨eqO_ok c1, of_decide_eq_true c2⟩
/-! ### calls by keywords, no defaults -/
theorem vals_getD : ∀ {vs : List V} {us : List Value} (i : Nat), Vals vs us → RelV (vs.getD i .non) (us.getD i .none)
  | [], [], _, _ => rfl
  | _ :: _, _ :: _, 0, .cons r _ => r
  | _ :: _, _ :: _, i + 1, .cons _ r => vals_getD i r
theorem kbN {x qual : Str} {st : Stmt} {f : Addr} {fd : FuncData} {ps ks : List Str} {n : Nat} {g : List Value → List Value → List Value} {gV : List V → List V → List V} (F : Fun K x qual st f fd)
    (hrel : ∀ {vs : List V} {us : List Value} {zs : List V} {ws : List Value}, Vals vs us → Vals zs ws → Vals (gV vs zs) (g us ws))
    (h : ∀ (kV doc pm : Value) (an : Option Addr) (cdv ct : Value) (us ws : List Value), us.length = n → ws.length = ks.length → bindArgs (PySem.W.fnOf x qual (defArgs st) (defBody st) (defScope st) .none kV doc pm an cdv ct) ⟨us, ks.zip ws⟩ = pure (ps.zip (g us ws))) : KBn K fd ps n ks g gV := by
  obtain ⟨oc, od, kV, doc, pm, an, cdv, ct, osl, rfl, lk, hcd⟩ := F.ex
  exact ⟨fun s us ws X l1 l2 => .of_eq (h kV doc pm an cdv ct us ws l1 l2), hrel⟩
section
variable {X : Cx} {CX : CXT} {k n : Nat} {f : Addr} {fd : FuncData} {ps ks : List Str} {sp : Sp} {E : XK} {x : Str} {p pos : Pos} {kws : List Keyword} {tk : TA} {g : List Value → List Value → List Value} {gV : List V → List V → List V}
theorem pe_callN0 (F : FnOk X.prog X.w X.K X.mg X.base CX k f fd ps sp) (hr : Room k X.A) (hg : Gl X x) (hm : X.mg x = some (.ref f)) (hk : PySem.W.keepIn X.K (.ref f) = true) (hb : KBn X.K fd ps 0 ks g gV) (hx : Passes CX X E) (hkw : PK X kws tk)
    (hall : (backToKw pos (keywordEach kws X.env)).all (·.1.isSome) = true := by rfl) (hks : (backToKw pos (keywordEach kws X.env)).filterMap (·.1) = ks := by rfl) (hdb : (x == ("__debug__" : Str)) = false := by decide)
    (hpl : ((backTo pos (starEach [] X.env)).any (·.1) || (backToKw pos (keywordEach kws X.env)).any (·.1.isNone)) = false := by rfl) :
    PE X (.Call (.Name x p) [] kws pos) (tCallN 0 ks.length sp gV E tNil tk) := by
  refine ⟨fun pins s σ H Q I h => ?_⟩
  refine wpAny_Call_Name_kw (ld_glob I hg hm ?_ hdb)
  refine PySem.W.callWith_KW0 (h₀ := X.base) I.ok.mod.kin hk hall ?_ hpl
  refine thn (hkw.run pos pins s σ H _ I h) fun ws s2 ⟨zs, H2, I2, rz, l1, l2, q2⟩ => ⟨I2.kIn, ?_⟩
  rw [hks]
  exact run_fnN (us := []) (vs := []) F hr hb hx I2 .nil rz rfl l2 q2
end
theorem e_callN {σ : L2.St} {H : Hp} {Q : VK} {n m : Nat} {sp : Sp} {gV : List V → List V → List V} {E : XK} {t tk : TA} (k : t σ H fun vs H1 => tk σ H1 fun zs H2 => vs.length = n ∧ zs.length = m ∧ sp (gV vs zs) H2 Q E) : tCallN n m sp gV E t tk σ H Q := k
/-! ### what holds no list stands without the store -/
mutual
def noL : D → Bool
  | .lst _ => false
  | .tup ds => noLs ds
  | .dic _ => false
  | _ => true
def noLs : List D → Bool
  | [] => true
  | d :: ds => noL d && noLs ds
end
mutual
theorem Dv.wo' {H : Hp} {p : Addr} {l : List V} (hp : H p = some (.lst l)) : ∀ {d : D} {v : V}, noL d = true → Dv H v d → Dv (Gx.wo p H) v d
  | .non, _, _, q => q
  | .bl _, _, _, q => q
  | .int _, _, _, q => q
  | .str _, _, _, q => q
  | .lst _, _, n, _ => nomatch n
  | .dic _, _, n, _ => nomatch n
  | .tup ds, _, n, ⟨a, vs, e, ha, hl, hv⟩ => ⟨a, vs, e, wo_at ha (fun z => by rw [z, hp] at ha; cases ha), hl, DvL.wo' hp n hv⟩
theorem DvL.wo' {H : Hp} {p : Addr} {l : List V} (hp : H p = some (.lst l)) : ∀ {ds : List D} {vs : List V}, noLs ds = true → DvL H vs ds → DvL (Gx.wo p H) vs ds
  | [], _, _, q => q
  | d :: ds, _, n, ⟨v, r, e, q, t⟩ => by
    have n2 := He.ba (show (noL d && noLs ds) = true from n)
    exact ⟨v, r, e, Dv.wo' hp n2.1 q, DvL.wo' hp n2.2 t⟩
end
theorem noLs_ints : ∀ ns : List Int, noLs (ns.map D.int) = true
  | [] => rfl
  | _ :: ns => noLs_ints ns
theorem noLs_all {ds : List D} (h : ∀ d ∈ ds, noL d = true) : noLs ds = true := by
  induction ds with
  | nil => rfl
  | cons d ds ih =>
    show (noL d && noLs ds) = true
    rw [h d (List.mem_cons_self ..), ih fun e he => h e (List.mem_cons_of_mem _ he)]
    rfl
theorem Sto.at {p c : Addr} {H : Hp} (s : Sto H p c) : ∃ l, H p = some (.lst l) := by
  obtain ⟨_, _, _, _, _, h, _⟩ := s
  exact ⟨_, h⟩
/-- ints as deep data -/
theorem dv_ints {H : Hp} : ∀ (ns : List Int), DvL H (ns.map V.int) (ns.map D.int)
  | [] => rfl
  | _ :: ns => ⟨_, _, rfl, rfl, dv_ints ns⟩
/-! ### dicts whose keys are texts or ints: len, sorted -/
def rLenD : List V → Hp → VK → Prop := fun xs H Q => ∃ a kvs, xs = [V.ref a] ∧ H a = some (.dK kvs) ∧ Q (.int (kvs.length : Nat)) H
theorem call_lenD' {X : Cx} : CallR X (.builtin "len") rLenD := call_lenD
def rSortedD : List V → Hp → VK → Prop := fun xs H Q => ∃ (a : Addr) (kvs : List (Key × V)) (ks : List Str), xs = [.ref a] ∧ Rd H a (.dK kvs) ∧ kvs.map (·.1) = ks.map Sum.inr ∧ ks.length < 64 ∧
    ∀ ys p, ys.Perm ks → sortedS ys = true → H p = none → Q (.ref p) (upd H p (.lst (ys.map V.str)))
theorem call_sortedD' {X : Cx} (hcalm : X.calm = true) : CallR X (.builtin "sorted") rSortedD := call_sortedD hcalm
theorem r_sortedD0 {H : Hp} {Q : VK} {a : Addr} (h : H a = some (.dK [])) (k : ∀ p, Nw H p → Q (.ref p) (upd H p (.lst []))) : rSortedD [.ref a] H Q :=
  ⟨a, [], [], rfl, .inl h, rfl, by decide, fun ys p hp _ hn => by
    have e := List.perm_nil.mp hp
    subst e
    exact k p hn⟩
theorem r_lenD {H : Hp} {Q : VK} {a : Addr} {kvs : List (Key × V)} (h : H a = some (.dK kvs)) (k : Q (.int (kvs.length : Nat)) H) : rLenD [.ref a] H Q := ⟨a, kvs, rfl, h, k⟩
/-! ### own classes -/
theorem e_fld {K : PySem.W.Frag} {σ : L2.St} {H : Hp} {Q : VK} {ta : TE} {f : Str} (k : ta σ H fun x H1 => ∃ a C dx fs v, x = .ref a ∧ H1 a = some (.ins C dx fs) ∧ Cls K C ∧ NoAttr K C f ∧ fs.lookup f = some v ∧ Q v H1) : tFld K ta f σ H Q := k
theorem r_fld {K : PySem.W.Frag} {H : Hp} {R : V → Prop} {f : Str} {a C dx : Addr} {fs : List (Str × V)} {v : V} (h : H a = some (.ins C dx fs)) (c : Cls K C) (n : NoAttr K C f) (l : fs.lookup f = some v) (k : R v) :
    ∃ a' C dx fs v, V.ref a = .ref a' ∧ H a' = some (.ins C dx fs) ∧ Cls K C ∧ NoAttr K C f ∧ fs.lookup f = some v ∧ R v := ⟨a, C, dx, fs, v, rfl, h, c, n, l, k⟩
theorem s_fld {K : PySem.W.Frag} {D : Ends} {σ : L2.St} {H : Hp} {ta tv : TE} {f : Str} (k : tv σ H fun y H1 => ta σ H1 fun x H2 => ∃ a C dx fs, x = .ref a ∧ H2 a = some (.ins C dx fs) ∧ Cls K C ∧ NoAttr K C f ∧ fs.length < 1000 ∧ D.nx σ (upd H2 a (.ins C dx (putF f y fs)))) : sFld K ta tv f D σ H := k
theorem r_sfld {K : PySem.W.Frag} {H : Hp} {R : Hp → Prop} {f : Str} {y : V} {a C dx : Addr} {fs : List (Str × V)} (h : H a = some (.ins C dx fs)) (c : Cls K C) (n : NoAttr K C f) (l : fs.length < 1000) (k : R (upd H a (.ins C dx (putF f y fs)))) :
    ∃ a' C dx fs, V.ref a = .ref a' ∧ H a' = some (.ins C dx fs) ∧ Cls K C ∧ NoAttr K C f ∧ fs.length < 1000 ∧ R (upd H a' (.ins C dx (putF f y fs))) := ⟨a, C, dx, fs, rfl, h, c, n, l, k⟩
theorem e_make {σ : L2.St} {H : Hp} {Q : VK} {C : Addr} {sp : Sp} {dvs : List V} {E : XK} {t : TA} (k : t σ H fun vs H1 => ∀ x dx, H1 x = none → H1 dx = none → dx ≠ x →
    sp (.ref x :: (vs ++ dvs)) (upd (upd H1 dx (.own x)) x (.ins C dx [])) (fun v H2 => v = .non ∧ Q (.ref x) H2) E) : tMake C sp dvs E t σ H Q := k
/-- what isinstance asks of an own class; no list, no tuple, no number, no text, no dict -/
structure InsK (K : PySem.W.Frag) (C : Addr) : Prop where
  cl : Cls K C
  ha : PySem.W.findIn K (.ref C) "__class__" = some (some (.builtin "object.__class__"))
  hn : PySem.W.specialIn K (.builtin "object.__class__") "__get__" = some (some (.builtin "getset_descriptor.__get__"))
  tk : PySem.W.takesIn K (.builtin "object.__class__") = some true
  mo : PySem.W.mroIn K C (.type "object") = some true
  seq : PySem.W.kitAny K (.ref C) [.type "list", .type "tuple"] = some false
  self : PySem.W.kitOne K (.ref C) (.ref C) = some true
  no : ∀ n ∈ ["int", "bool", "str", "dict", "list", "tuple"], PySem.W.kitOne K (.ref C) (.type n) = some false
def cIns (x : Str) : Ck := fun K => Fa.ok K (.cls x) && (eqO (PySem.W.findIn K (.ref (ga K x)) "__class__") (some (some (.builtin "object.__class__"))) &&
  (eqO (PySem.W.specialIn K (.builtin "object.__class__") "__get__") (some (some (.builtin "getset_descriptor.__get__"))) && (decide (PySem.W.takesIn K (.builtin "object.__class__") = some true) &&
  (decide (PySem.W.mroIn K (ga K x) (.type "object") = some true) && (decide (PySem.W.kitAny K (.ref (ga K x)) [.type "list", .type "tuple"] = some false) && (decide (PySem.W.kitOne K (.ref (ga K x)) (.ref (ga K x)) = some true) &&
  (["int", "bool", "str", "dict", "list", "tuple"] : List String).all fun n => decide (PySem.W.kitOne K (.ref (ga K x)) (.type n) = some false)))))))
theorem insK_ok {x : Str} (c : cIns x K = true) : InsK K (ga K x) := by
  obtain ⟨c1, c⟩ := ba c
  obtain ⟨c2, c⟩ := ba c
  obtain ⟨c3, c⟩ := ba c
  obtain ⟨c4, c⟩ := ba c
  obtain ⟨c5, c⟩ := ba c
  obtain ⟨c6, c⟩ := ba c
  obtain ⟨c7, c8⟩ := ba c
  exact ⟨cls_ok c1, eqO_ok c2, eqO_ok c3, of_decide_eq_true c4, of_decide_eq_true c5, of_decide_eq_true c6, of_decide_eq_true c7, fun n hn => of_decide_eq_true (List.all_eq_true.mp c8 n hn)⟩
theorem InsK.ty {C a dx : Addr} {fs : List (Str × V)} {H : Hp} (c : InsK K C) (h : H a = some (.ins C dx fs)) : TyX K H (.ref a) (.ref C) := .base (.ins h c.cl c.ha c.hn c.tk c.mo)
/-- the default () of a def -/
def dtB (f : Str × Option Str) (i : Nat) : Ck := fun K => match K.lookup (dflAt f i K) with
  | some ⟨.type c, _, .seq its _, _⟩ => decide (c = "tuple") && its.toList.isEmpty
  | _ => false
structure Emp (K : PySem.W.Frag) (e : Addr) : Prop where
  sq : ∀ H, SqT K H e []
  ty : ∀ H, TyX K H (.ref e) (.type "tuple")
theorem dtB_ok {f : Str × Option Str} {i : Nat} (h : dtB f i K = true) : Emp K (dflAt f i K) := by
  unfold dtB at h
  cases q : K.lookup (dflAt f i K) with
  | none =>
    rw [q] at h
    cases h
  | some o =>
    obtain ⟨oc, od, dt, osl⟩ := o
    rw [q] at h
    cases oc with
    | type c =>
      cases dt with
      | seq its n =>
        obtain ⟨h1, h2⟩ := ba (show (decide (c = "tuple") && its.toList.isEmpty) = true from h)
        have e1 := of_decide_eq_true h1
        subst e1
        obtain ⟨l⟩ := its
        have e2 : l = [] := List.isEmpty_iff.mp h2
        subst e2
        exact ⟨fun H => .inr ⟨_, _, n, q, rfl, rfl, by show 0 ≤ sizeLine; exact Nat.zero_le _, .nil⟩, fun H => .kTuple q rfl⟩
      | _ => cases h
    | _ => cases dt <;> cases h
theorem nw_intro {H : Hp} {R : Addr → Prop} (k : ∀ p, Nw H p → R p) : ∀ p, Nw H p → R p := k
theorem sb_same {H H1 H2 : Hp} {x : Addr} (s0 : Same H H1) (s : SB x H1 H2) (h : H x = none) : Same H H2 := fun b o e => s b o (ne_of_none e h) (s0 b o e)
def rRevL (K : PySem.W.Frag) (x : V) (H : Hp) (Q : VK) : Prop := ∃ a xs, x = .ref a ∧ SqL K H a xs ∧ ∀ p, H p = none → Q (.ref p) (upd H p (.lst xs.reverse))
theorem e_revL {K : PySem.W.Frag} {σ : L2.St} {H : Hp} {Q : VK} {te : TE} (k : te σ H fun x H1 => rRevL K x H1 Q) : tRevL K te σ H Q := k
theorem r_revL {K : PySem.W.Frag} {H : Hp} {Q : VK} {a : Addr} {xs : List V} (h : H a = some (.lst xs)) (k : ∀ p, Nw H p → Q (.ref p) (upd H p (.lst xs.reverse))) : rRevL K (.ref a) H Q := ⟨a, xs, rfl, SqL.of h, k⟩
theorem bent_at {l1 r : List D} {od : D} {i : Nat} (h : l1.length = i) : ((l1 ++ [od]) ++ r)[i]? = some od := by
  subst h
  simp
theorem bent_pre {l1 r : List D} {od : D} {i j : Nat} {c : D} (h : l1.length = i) (hj : j < i) (e : ((l1 ++ [od]) ++ r)[j]? = some c) : l1[j]? = some c := by
  subst h
  rw [List.append_assoc, List.getElem?_append_left hj] at e
  exact e
/-! ### properties -/
def cProp (C m : Str) : Ck := fun K => eqO (PySem.W.findIn K (.ref (ga K C)) m) (some (some (.ref (ma K (ga K C) m)))) && (eqO (PySem.W.specialIn K (.ref (ma K (ga K C) m)) "__get__") (some (some (.builtin "property.__get__"))) &&
  (decide (PySem.W.takesIn K (.ref (ma K (ga K C) m)) = some true) && (match PySem.W.recIn K (ma K (ga K C) m) "property" with
  | some (.ref _ :: _) => true
  | _ => false)))
theorem prop_ok {C m : Str} (c : cProp C m K = true) : PropOf K (ga K C) m (ma K (ga K C) m) (prAd K C m) := by
  obtain ⟨c1, c⟩ := ba c
  obtain ⟨c2, c⟩ := ba c
  obtain ⟨c3, c4⟩ := ba c
  refine ⟨eqO_ok c1, eqO_ok c2, of_decide_eq_true c3, ?_⟩
  unfold prAd
  cases q : PySem.W.recIn K (ma K (ga K C) m) "property" with
  | none => rw [q] at c4; cases c4
  | some l =>
    rw [q] at c4
    match l, c4 with
    | .ref g :: rest, _ => exact ⟨rest, rfl⟩
theorem e_prop {σ : L2.St} {H : Hp} {Q : VK} {C : Addr} {sp : Sp} {dvs : List V} {E : XK} {ta : TE} (k : ta σ H fun x H1 => ∃ a dx fs, x = .ref a ∧ H1 a = some (.ins C dx fs) ∧ sp (.ref a :: dvs) H1 Q E) : tProp C sp dvs E ta σ H Q := k
theorem e_meth {σ : L2.St} {H : Hp} {Q : VK} {C : Addr} {m : Str} {sp : Sp} {dvs : List V} {E : XK} {ta : TE} {t : TA} (k : ta σ H fun x H1 => ∃ a dx fs, x = .ref a ∧ H1 a = some (.ins C dx fs) ∧ fs.lookup m = none ∧ t σ H1 fun vs H2 => sp (x :: (vs ++ dvs)) H2 Q E) : tMeth C m sp dvs E ta t σ H Q := k
/-! ### making an instance inside a try: what __init__ lets out is the block's -/
def tMakeS (C : Addr) (sp : Sp) (dvs : List V) (E : L2.St → XK) (t : TA) : TE := fun σ H Q => t σ H fun vs G => ∀ x dx, G x = none → G dx = none → dx ≠ x →
  sp (.ref x :: (vs ++ dvs)) (upd (upd G dx (.own x)) x (.ins C dx [])) (fun v H2 => v = .non ∧ Q (.ref x) H2) (E σ)
section
variable {X : Cx} {CX : CXT} {k : Nat} {f C : Addr} {fd : FuncData} {ps : List Str} {sp : Sp} {E : L2.St → XK} {x : Str} {p pos : Pos} {e : Expr} {es : List Expr} {t : TA} {dvs : List V} {ds : List Value}
theorem mk_at {pins : List (Addr × Obj)} {σ : L2.St} {G : Hp} {s : Shared} {Q : VK} {us : List Value} {vs : List V} (M : Mk X.K C f) (F : FnOk X.prog X.w X.K X.mg X.base CX k f fd ps sp) (hr : Room (k + 1) X.A) (hb : Binds X.K fd ps ds) (hd : Vals dvs ds)
    (px : PassesAt CX X σ (E σ)) (I : L2.Inv X pins σ G s) (rv : Vals vs us)
    (go : ∀ x dx, G x = none → G dx = none → dx ≠ x → sp (.ref x :: (vs ++ dvs)) (upd (upd G dx (.own x)) x (.ins C dx [])) (fun v H2 => v = .non ∧ Q (.ref x) H2) (E σ)) :
    wpAny (model X.prog X.w) X.A (call (.ref C) us) (EP X pins σ Q) X.xe s := by
  let N := s.heap.objs.size
  have z := go (N + 1) N (I.hok.fresh (Nat.le_succ _)) (I.hok.fresh (Nat.le_refl _)) (Nat.ne_of_lt (Nat.lt_succ_self _))
  have J := Inv.made (C := C) I
  have rr : Vals (V.ref (N + 1) :: (vs ++ dvs)) (Value.ref (N + 1) :: (us ++ ds)) := .cons rfl (rv.append hd)
  have ln : (Value.ref (N + 1) :: us ++ ds).length = ps.length := (rr.length.symm.trans (F.len _ _ _ _ z) : _)
  have b := hb _ (Value.ref (N + 1) :: us) J.kIn ln
  have run := F.run _ X.stack _ _ ⟨Value.ref (N + 1) :: us, []⟩ (Value.ref (N + 1) :: (us ++ ds)) _ _ (E σ) (hr.make C us []) (J.env0.make C us []) b rr z
  refine wpAny_call (make_map (f := f) I.kIn M.makes M.init (beq_iff_eq.mp M.fn) (codeAny_mono run fun r s' out => ?_))
  rcases r with er | fl
  · exact px pins _ _ er s' J out
  · cases fl with
    | ret u =>
      obtain ⟨v, H', J2, ru, ev, done⟩ := J.after out
      cases ev
      exact ⟨ru, ⟨V.ref (N + 1), H', J2, rfl, done⟩⟩
    | next => exact out.elim
    | brk => exact out.elim
    | cont => exact out.elim
theorem pe_makeS (M : Mk X.K C f) (F : FnOk X.prog X.w X.K X.mg X.base CX k f fd ps sp) (hr : Room (k + 1) X.A) (hg : Gl X x) (hm : X.mg x = some (.ref C)) (hb : Binds X.K fd ps ds) (hd : Vals dvs ds) (px : ∀ σ, PassesAt CX X σ (E σ))
    (ha : PA X (e :: es) t) (hdb : (x == ("__debug__" : Str)) = false := by decide) (he : starEach (e :: es) X.env = (false, eval e X.env) :: starEach es X.env := by rfl) (hpl : (backTo pos (starEach es X.env)).any (·.1) = false := by rfl) :
    PE X (.Call (.Name x p) (e :: es) [] pos) (tMakeS C sp dvs E t) :=
  ⟨fun pins s σ G Q I h => wpAny_Call_Name_kw (ld_glob I hg hm (PySem.W.callWith_K (h₀ := X.base) I.ok.mod.kin M.kp (thn (ha.run pos pins s σ G _ I h) fun us s1 ⟨vs, G1, I1, r, q⟩ => ⟨I1.kIn, mk_at M F hr hb hd (px σ) I1 r q⟩) he hpl) hdb)⟩
end
theorem e_makeS {σ : L2.St} {H : Hp} {Q : VK} {C : Addr} {sp : Sp} {dvs : List V} {E : L2.St → XK} {t : TA} (k : t σ H fun vs H1 => ∀ x dx, H1 x = none → H1 dx = none → dx ≠ x →
    sp (.ref x :: (vs ++ dvs)) (upd (upd H1 dx (.own x)) x (.ins C dx [])) (fun v H2 => v = .non ∧ Q (.ref x) H2) (E σ)) : tMakeS C sp dvs E t σ H Q := k
end Gx

set_option Elab.async false
set_option linter.all false
set_option maxRecDepth 100000
set_option maxHeartbeats 4000000
/-! sorted of a dict whose keys are pairs of ints, any number of them. -/
namespace Gx
open PySem PySem.Spec PyProof.Rows L2
def pairAt (H : Hp) : V → Int × Int
  | .ref t => (match H t with
    | some (.tup [.int i, .int j]) => (i, j)
    | _ => (0, 0))
  | _ => (0, 0)
theorem pairAt_of {H : Hp} {t : Addr} {i j : Int} (h : H t = some (.tup [.int i, .int j])) : pairAt H (.ref t) = (i, j) := by
  show (match H t with
    | some (.tup [.int i, .int j]) => (i, j)
    | _ => (0, 0)) = (i, j)
  rw [h]
def kpair : List L2.Key → Int × Int
  | [.inl i, .inl j] => (i, j)
  | _ => (0, 0)
def rSortedDT : List V → Hp → VK → Prop := fun vs H Q => ∃ (a : Addr) (kvs : List (List L2.Key × V)), vs = [.ref a] ∧ Rd H a (.dT kvs) ∧ (∀ e ∈ kvs, ∃ i j, e.1 = [.inl i, .inl j]) ∧
  ∀ ys p, SrtO.Srtd (ltP (pairAt H)) ys → (ys.map (pairAt H)).Perm (kvs.map fun e => kpair e.1) → (∀ y ∈ ys, ∃ t, y = V.ref t ∧ H t = some (.tup [.int (pairAt H y).1, .int (pairAt H y).2])) → H p = none → Q (.ref p) (upd H p (.lst ys))
section
variable {X : Cx}
theorem cr_sortedDT (hcalm : X.calm = true) : CallR X (.builtin "sorted") rSortedDT := by
  intro pins s σ H vs us Q I r q
  obtain ⟨a, kvs, rfl, hd, hks, q⟩ := q
  obtain ⟨u, rfl, ru⟩ := vals1 r
  obtain rfl : u = Value.ref a := ru
  obtain ⟨z, lo, xs, rel, dd⟩ := dt_rd I.hok hd
  obtain ⟨es, ep, raw, hsz, hes⟩ := dd.raw
  have lx : kvs.length = xs.length := Paired.length rel
  have ent : ∀ (i : Nat) (hi : i < es.size), ∃ (e : List L2.Key × V) (t : Addr), kvs[i]? = some e ∧ es[i].key = Value.ref t ∧ H t = some (.tup (e.1.map kV)) := by
    intro i hi
    obtain ⟨y, hy, hk, _, _⟩ := hes i hi
    obtain ⟨e, he, r1, r2, r3⟩ := L2.DX.pget rel hy
    exact ⟨e, y.2.1, he, hk, r2⟩
  have hz : es.size ≤ sizeLine := by omega
  refine Calls.call_function_entry PyProof.Rows.kind_sorted PyProof.Rows.plain_sorted PyProof.Rows.entry_sorted (PyProof.Rows.args_sorted1 _) ?_
  unfold Builtin.«sorted»
  refine wpAny_bind (m := checkCount "sorted" 1 1 _) (wpAny_pure ?_)
  refine wpAny_bind (PySem.W.kdu_collect (A := X.A.in1) (KdlSrc.rawDict (es := es) (ep := ep) lo) (I.ok.hd hcalm) raw hz fun h' tk acc hk hacc => ?_)
  have hal : acc.toList.length = kvs.length := by rw [Array.length_toList, hacc.1, hsz, lx]
  have at_ : ∀ (i : Nat) (v : Value), acc.toList[i]? = some v → ∃ (e : List L2.Key × V) (t : Addr) (x y : Int), kvs[i]? = some e ∧ v = Value.ref t ∧ e.1 = [.inl x, .inl y] ∧ H t = some (.tup [.int x, .int y]) := by
    intro i v hv
    obtain ⟨hi, rfl⟩ := hacc.2 i v (by rw [← Array.getElem?_toList]; exact hv)
    obtain ⟨e, t, he, hk2, ht⟩ := ent i hi
    obtain ⟨x, y, exy⟩ := hks e (List.mem_of_getElem? he)
    rw [exy] at ht
    exact ⟨e, t, x, y, he, hk2, exy, ht⟩
  have mem_ : ∀ v ∈ acc.toList, ∃ (t : Addr) (x y : Int), v = Value.ref t ∧ H t = some (.tup [.int x, .int y]) := fun v hv => by
    obtain ⟨i, hi⟩ := List.mem_iff_getElem?.mp hv
    obtain ⟨_, t, x, y, _, h1, _, h2⟩ := at_ i v hi
    exact ⟨t, x, y, h1, h2⟩
  have I1 : Inv X pins σ H { s with heap := h', toks := tk } := I.kept hk
  have hzl : acc.toList.length ≤ sizeLine := by rw [hal]; exact z
  refine wpAny_bind (wpAny_newList ?_ hzl)
  have hoL : (h'.push (seqObj "list" acc.toList.toArray 0)).get? h'.objs.size = some (seqObj "list" acc.toList.toArray 0) := Heap.get?_push_size _ rfl
  show wpAny _ _ _ _ _ { s with heap := h'.push (seqObj "list" acc.toList.toArray 0), toks := tk }
  have pr : ∀ v ∈ acc.toList, Srt.IsPair (h'.push (seqObj "list" acc.toList.toArray 0)) v (pairAt H (backV v)).1 (pairAt H (backV v)).2 := fun v hv => by
    obtain ⟨t, x, y, rfl, ht⟩ := mem_ v hv
    obtain ⟨_, its, r2, o, ho, hc, n, hdt⟩ := I1.hok _ _ ht
    obtain ⟨u1, u2, rfl, ri, rj⟩ := vals2 r2
    obtain ⟨t1, rfl⟩ := ri
    obtain ⟨t2, rfl⟩ := rj
    have e : pairAt H (backV (.ref t)) = (x, y) := pairAt_of ht
    rw [e]
    exact ⟨t, o, t1, t2, n, rfl, Heap.get?_push_of_some _ ho, hc, hdt⟩
  refine wpAny_bind (wpAny_holding (wpAny_call_entry PyProof.Rows.slot_list_sort ⟨_, hoL, rfl⟩ PyProof.Rows.entry_list_sort
    (SrtO.list_sort_ord (s := { s with heap := h'.push (seqObj "list" acc.toList.toArray 0), toks := tk }) (SrtO.swo_lex fun u => pairAt H (backV u)) hoL hzl (fun h2 => SrtO.pairs_sortableO (by omega) pr fun o e => ?_) fun out hs hb => ⟨_, rfl, ?_⟩)
    (PyProof.Rows.args_list_sort _)))
  · have e' : some o = some (seqObj "list" acc.toList.toArray 0) := e.symm.trans hoL
    cases e'
    intro c
    exact absurd (Value.type.inj c) (by decide)
  · obtain ⟨e', he'⟩ := PyProof.Rows.sortedHeap_at (vs := acc.toList) (out := out.toArray) hoL
    have hperm := hb.perm
    have h3 : ∀ u ∈ out, ∃ t x y, u = Value.ref t ∧ H t = some (.tup [.int x, .int y]) := fun u hu => mem_ u (hperm.mem_iff.mp hu)
    have hlen : (out.map backV).length ≤ sizeLine := by rw [List.length_map, hperm.length_eq]; exact hzl
    refine wpAny_pure ⟨_, rfl, .ref h'.objs.size, upd H h'.objs.size (.lst (out.map backV)), I1.laid (t' := tk) (fun b u e => ?_) (Nat.le_refl _)
      (show ObjOk X.prog X.w _ _ _ (.lst (out.map backV)) from ⟨hlen, out, e', vals_back (fun u hu => let ⟨t, _, _, e, _⟩ := h3 u hu; ⟨t, e⟩), he'⟩), rfl, q (out.map backV) _ (SrtO.srtd_map hs) ?_ ?_ (I1.hok.fresh (Nat.le_refl _))⟩
    · have hb : b < h'.objs.size := Heap.lt_size e
      rw [PyProof.Rows.sortedHeap_old (Nat.ne_of_lt hb) (by rw [size_push']; exact Nat.lt_succ_of_lt hb)]
      exact Heap.get?_push_of_some _ e
    · rw [List.map_map]
      refine (hperm.map _).trans ?_
      refine List.Perm.of_eq (List.ext_getElem? fun i => ?_)
      rw [List.getElem?_map, List.getElem?_map]
      cases e : acc.toList[i]? with
      | none =>
        have : kvs[i]? = none := by
          rw [List.getElem?_eq_none_iff] at e ⊢
          omega
        rw [this]
        rfl
      | some v =>
        obtain ⟨en, t, x, y, he, rfl, exy, ht⟩ := at_ i v e
        rw [he]
        show some (pairAt H (.ref t)) = some (kpair en.1)
        rw [pairAt_of ht, exy]
        rfl
    · intro y hy
      obtain ⟨u, hu, rfl⟩ := List.mem_map.mp hy
      obtain ⟨t, x, y, rfl, ht⟩ := h3 u hu
      have e : pairAt H (backV (.ref t)) = (x, y) := pairAt_of ht
      refine ⟨t, rfl, ?_⟩
      rw [e]
      exact ht
end
end Gx

set_option Elab.async false
set_option linter.all false
set_option maxRecDepth 100000
set_option maxHeartbeats 4000000
/-! Webs as data: their arrows in order. -/
namespace Gx
open PySem PySem.Spec PyProof.Rows L2
def pD (q : Int × Int) : D := .tup [.int q.1, .int q.2]
def plt (p q : Int × Int) : Prop := p.1 < q.1 ∨ (p.1 = q.1 ∧ p.2 < q.2)
theorem put_keys {α : Type} [DecidableEq α] {kvs : List (α × V)} {k : α} {v : V} : (putK kvs k v).map (·.1) = if k ∈ kvs.map (·.1) then kvs.map (·.1) else kvs.map (·.1) ++ [k] := by
  unfold putK
  by_cases h : k ∈ kvs.map (·.1)
  · rw [if_pos h]
    have e : (kvs.any fun kv => decide (kv.1 = k)) = true := by
      obtain ⟨e, he, rfl⟩ := List.mem_map.mp h
      exact List.any_eq_true.mpr ⟨e, he, decide_eq_true rfl⟩
    rw [if_pos e, List.map_map]
    refine List.map_congr_left fun e _ => ?_
    show (if e.1 = k then (e.1, v) else e).1 = e.1
    by_cases q : e.1 = k
    · rw [if_pos q]
    · rw [if_neg q]
  · rw [if_neg h]
    have e : ¬ (kvs.any fun kv => decide (kv.1 = k)) = true := fun z => by
      obtain ⟨e, he, q⟩ := List.any_eq_true.mp z
      exact h (List.mem_map.mpr ⟨e, he, of_decide_eq_true q⟩)
    rw [if_neg e, List.map_append]
    rfl
/-- the pairs that a dict has as keys, each once -/
structure Keys (kvs : List (List L2.Key × V)) (ps : List (Int × Int)) : Prop where
  two : ∀ e ∈ kvs, ∃ i j, e.1 = [.inl i, .inl j]
  nd : (kvs.map fun e => kpair e.1).Nodup
  mem : ∀ q, q ∈ (kvs.map fun e => kpair e.1) ↔ q ∈ ps
  len : kvs.length ≤ ps.length
theorem Keys.nil : Keys [] [] := ⟨fun e h => (nomatch h), List.nodup_nil, fun q => Iff.rfl, Nat.le_refl _⟩
theorem kp_map (kvs : List (List L2.Key × V)) : (kvs.map fun e => kpair e.1) = (kvs.map (·.1)).map kpair := by rw [List.map_map]; rfl
theorem Keys.put {kvs : List (List L2.Key × V)} {ps : List (Int × Int)} (K : Keys kvs ps) (i j : Int) (v : V) : Keys (putK kvs [.inl i, .inl j] v) (ps ++ [(i, j)]) := by
  have hk := put_keys (kvs := kvs) (k := [Sum.inl i, Sum.inl j]) (v := v)
  have two' : ∀ k' ∈ (putK kvs [.inl i, .inl j] v).map (·.1), ∃ a b, k' = [Sum.inl a, Sum.inl b] := fun k' h => by
    rw [hk] at h
    have old : k' ∈ kvs.map (·.1) → ∃ a b, k' = [Sum.inl a, Sum.inl b] := fun h => by
      obtain ⟨e, he, rfl⟩ := List.mem_map.mp h
      exact K.two e he
    by_cases q : [Sum.inl i, Sum.inl j] ∈ kvs.map (·.1)
    · rw [if_pos q] at h
      exact old h
    · rw [if_neg q] at h
      rcases List.mem_append.mp h with h | h
      · exact old h
      · exact ⟨i, j, List.mem_singleton.mp h⟩
  have hl : (putK kvs [.inl i, .inl j] v).length ≤ kvs.length + 1 := by
    have e := congrArg List.length hk
    rw [List.length_map] at e
    rw [e]
    split
    · rw [List.length_map]; omega
    · rw [List.length_append, List.length_map]; exact Nat.le_refl _
  refine ⟨fun e he => two' _ (List.mem_map.mpr ⟨e, he, rfl⟩), ?_, fun q => ?_, by rw [List.length_append]; have := K.len; show _ ≤ _ + 1; omega⟩
  · rw [kp_map, hk]
    by_cases q : [Sum.inl i, Sum.inl j] ∈ kvs.map (·.1)
    · rw [if_pos q, ← kp_map]
      exact K.nd
    · rw [if_neg q, List.map_append, ← kp_map]
      refine List.nodup_append.mpr ⟨K.nd, by simp, fun x hx y hy => ?_⟩
      rw [List.mem_singleton.mp hy]
      rintro rfl
      obtain ⟨e, he, e2⟩ := List.mem_map.mp hx
      obtain ⟨a, b, e3⟩ := K.two e he
      rw [e3] at e2
      have e4 : (a, b) = (i, j) := e2
      cases e4
      exact q (List.mem_map.mpr ⟨e, he, e3⟩)
  · rw [kp_map, hk, List.mem_append, ← K.mem q]
    by_cases z : [Sum.inl i, Sum.inl j] ∈ kvs.map (·.1)
    · rw [if_pos z, ← kp_map]
      refine ⟨.inl, fun h => h.elim id fun h => ?_⟩
      rw [List.mem_singleton.mp h, kp_map]
      exact List.mem_map.mpr ⟨_, z, rfl⟩
    · rw [if_neg z, List.map_append, ← kp_map, List.mem_append]
      exact Iff.rfl
theorem Keys.length {kvs : List (List L2.Key × V)} {ps A : List (Int × Int)} (K : Keys kvs ps) (h1 : A.Nodup) (h2 : ∀ q, q ∈ A ↔ q ∈ ps) : kvs.length = A.length := by
  have p : (kvs.map fun e => kpair e.1).Perm A := (List.perm_ext_iff_of_nodup K.nd h1).mpr fun q => (K.mem q).trans (h2 q).symm
  have := p.length_eq
  rwa [List.length_map] at this
theorem plt_nd {A : List (Int × Int)} (h : A.Pairwise plt) : A.Nodup := h.imp fun {a b} h e => by
  subst e
  rcases h with h | ⟨_, h⟩
  · exact Int.lt_irrefl _ h
  · exact Int.lt_irrefl _ h
/-- one order alone -/
theorem plt_one : ∀ {A B : List (Int × Int)}, A.Pairwise plt → B.Pairwise plt → A.Perm B → A = B
  | A, B, h1, h2, p => List.Perm.eq_of_pairwise (le := plt) (fun a b _ _ h h' => by
      exfalso
      unfold plt at h h'
      omega) h1 h2 p
theorem srt_plt {H : Hp} {ys : List V} (h : SrtO.Srtd (ltP (pairAt H)) ys) (nd : (ys.map (pairAt H)).Nodup) : (ys.map (pairAt H)).Pairwise plt := by
  rw [List.pairwise_map]
  have nd' := List.pairwise_map.mp nd
  refine (List.Pairwise.and h nd').imp fun {x y} ⟨h, n⟩ => ?_
  have a := SrtO.lexB_no.mp h
  unfold plt
  have hn : ¬ ((pairAt H x).1 = (pairAt H y).1 ∧ (pairAt H x).2 = (pairAt H y).2) := fun z => n (Prod.ext z.1 z.2)
  omega
/-- where the arrows from u go, where those into v come from -/
def outsOf (A : List (Int × Int)) (u : Int) : List Int := (A.filter fun q => decide (q.1 = u)).map (·.2)
def insOf (A : List (Int × Int)) (v : Int) : List Int := (A.filter fun q => decide (q.2 = v)).map (·.1)
theorem outs_snoc (A : List (Int × Int)) (q : Int × Int) (u : Int) : outsOf (A ++ [q]) u = if q.1 = u then outsOf A u ++ [q.2] else outsOf A u := by
  unfold outsOf
  rw [List.filter_append, List.map_append]
  by_cases h : q.1 = u
  · simp [h]
  · simp [h]
theorem ins_snoc (A : List (Int × Int)) (q : Int × Int) (v : Int) : insOf (A ++ [q]) v = if q.2 = v then insOf A v ++ [q.1] else insOf A v := by
  unfold insOf
  rw [List.filter_append, List.map_append]
  by_cases h : q.2 = v
  · simp [h]
  · simp [h]
/-- a row of lists of ints, each at its own place -/
def Rows (H : Hp) (bs : List Addr) (f : Int → List Int) : Prop := ∀ (u : Nat) (b : Addr), bs[u]? = some b → H b = some (.lst ((f u).map V.int))
/-- an object of the class C, a web: n places, the arrows A in order -/
def IsWeb (C : Addr) (H : Hp) (x : Addr) (n : Int) (A : List (Int × Int)) : Prop := ∃ (dx k l o i : Addr) (kvs : List (List L2.Key × V)) (ys : List V) (bs cs : List Addr),
  H x = some (.ins C dx (putF "_ins" (.ref i) (putF "_outs" (.ref o) (putF "_arrows" (.ref l) (putF "_known" (.ref k) []))))) ∧ H k = some (.dT kvs) ∧ Keys kvs A ∧ H l = some (.lst ys) ∧ DvL H ys (A.map pD) ∧ A.Pairwise plt ∧ (∀ q ∈ A, 0 ≤ q.1 ∧ q.1 < n ∧ 0 ≤ q.2 ∧ q.2 < n) ∧
  0 ≤ n ∧ A.length ≤ 2000 ∧ H o = some (.lst (bs.map V.ref)) ∧ bs.length = n.toNat ∧ Rows H bs (outsOf A) ∧ H i = some (.lst (cs.map V.ref)) ∧ cs.length = n.toNat ∧ Rows H cs (insOf A)
theorem IsWeb.mono {C x : Addr} {H H' : Hp} {n : Int} {A : List (Int × Int)} (h : IsWeb C H x n A) (s : Same H H') : IsWeb C H' x n A := by
  obtain ⟨dx, k, l, o, i, kvs, ys, bs, cs, h1, h2, h3, h4, h5, h6, h7, h8, h9, h10, h11, h12, h13, h14, h15⟩ := h
  exact ⟨dx, k, l, o, i, kvs, ys, bs, cs, s _ _ h1, s _ _ h2, h3, s _ _ h4, h5.mono s, h6, h7, h8, h9, s _ _ h10, h11, fun u b e => s _ _ (h12 u b e), s _ _ h13, h14, fun u b e => s _ _ (h15 u b e)⟩
theorem r_lenT' {H : Hp} {Q : VK} {a : Addr} {kvs : List (List L2.Key × V)} (h : H a = some (.dT kvs)) (k : Q (.int ((kvs.length : Nat) : Int)) H) : rLenT [.ref a] H Q := ⟨a, kvs, rfl, h, k⟩
theorem e_dnewT {σ : L2.St} {H : Hp} {Q : VK} (k : ∀ p, Nw H p → Q (.ref p) (upd H p (.dT []))) : tDNewT σ H Q := k
/-- sorted(d): the pairs in order -/
theorem r_sortedDT {H : Hp} {Q : VK} {a : Addr} {kvs : List (List L2.Key × V)} {A : List (Int × Int)} (h : H a = some (.dT kvs)) (K : Keys kvs A) (o : A.Pairwise plt)
    (k : ∀ p ys, Nw H p → DvL H ys (A.map pD) → Q (.ref p) (upd H p (.lst ys))) : rSortedDT [.ref a] H Q := by
  refine ⟨a, kvs, rfl, .inl h, K.two, fun ys p h1 h2 h3 hp => k p ys hp ?_⟩
  have pA : (ys.map (pairAt H)).Perm A := h2.trans ((List.perm_ext_iff_of_nodup K.nd (plt_nd o)).mpr K.mem)
  have eA : ys.map (pairAt H) = A := plt_one (srt_plt h1 (pA.nodup_iff.mpr (plt_nd o))) o pA
  subst eA
  clear h1 h2 pA o K k
  induction ys with
  | nil => rfl
  | cons y ys ih =>
    obtain ⟨t, rfl, ht⟩ := h3 y (List.mem_cons_self ..)
    exact ⟨_, _, rfl, ⟨t, _, rfl, ht, by show 2 ≤ sizeLine; decide, _, _, rfl, rfl, _, _, rfl, rfl, rfl⟩, ih fun z hz => h3 z (List.mem_cons_of_mem _ hz)⟩
section
variable {σ : L2.St} {H : Hp} {nn : L2.St → Hp → Prop} {rt : VK} {g : TG} {tb : TS} {K : PySem.W.Frag} {p : Addr} {xs : List V} {j : Nat}
theorem o_enumE {H0 : Hp} (hv : σ[j]? = some (some (.ref p))) (hp : SeqAt' H0 p xs ∨ (Emp K p ∧ xs = [])) (s0 : Same H0 H) (Pv : Nat → L2.St → Hp → Prop) (h0 : Pv 0 σ H) (hl : ∀ i σ' H', Pv i σ' H' → Same H0 H')
    (hs : ∀ i x T σ H, xs[i]? = some x → Pv i σ H → Nw H T → g (.ref T) σ (upd H T (.tup [.int (i : Nat), x])) fun σ2 H2 => tb ⟨Pv (i + 1), rt, nn, Pv (i + 1)⟩ σ2 H2) (hd : ∀ σ H, Pv xs.length σ H → nn σ H) :
    iOr (iEnum K (tCons (tVar j) tNil)) (iEnumT K (tCons (tVar j) tNil)) σ H fun J H1 => ∃ W : Nat → Nat → L2.St → Hp → Prop, (∃ m, W 0 m σ H1) ∧ ∀ i m σ H, W i m σ H →
      (J.stop i H ∧ nn σ H) ∨ (J.go i H ∧ ∃ N : L2.St → Hp → Prop, (∀ σ' H', N σ' H' → ∃ m', m' < m ∧ W (i + 1) m' σ' H') ∧ ∀ x H', J.yld i H x H' → g x σ H' fun σ2 H2 => tb ⟨N, rt, nn, N⟩ σ2 H2) := by
  rcases hp with h | ⟨he, rfl⟩
  · refine o_enum hv (h.same s0) Pv h0 (fun i σ' H' _ q o ho => ?_) hs hd
    rcases h with e | e
    · rw [s0 _ _ e] at ho; rw [← ho]; exact hl _ _ _ q _ _ e
    · rw [s0 _ _ e] at ho; rw [← ho]; exact hl _ _ _ q _ _ e
  · exact .inr (i_enumT (e_cons (e_var hv (e_nil (i_enumT' (he.sq _) (f_enumT Pv h0 (fun _ _ _ _ _ => he.sq _) hs hd))))))
end
theorem s_dput {σ : L2.St} {H : Hp} {D : Ends} {td ty tv : TE} (k : tv σ H fun v H1 => td σ H1 fun x H2 => ty σ H2 fun y H3 => ∃ a H4, x = .ref a ∧ DPut H3 a y v H4 ∧ D.nx σ H4) : sDPut td ty tv D σ H := k
theorem r_dputT {H : Hp} {R : Hp → Prop} {a b : Addr} {kvs : List (List L2.Key × V)} {k : List L2.Key} {v : V} (e : H a = some (.dT kvs)) (eb : H b = some (.tup (k.map kV))) (hl : kvs.length < sizeLine) (kk : R (upd H a (.dT (putK kvs k v)))) :
    ∃ a' H4, V.ref a = .ref a' ∧ DPut H a' (.ref b) v H4 ∧ R H4 := ⟨a, _, rfl, DPut.t e eb hl, kk⟩
theorem pairs_sb {H H' : Hp} {x C dx : Addr} {fs : List (Str × V)} (hx : H x = some (.ins C dx fs)) (s : SB x H H') : ∀ {A : List (Int × Int)} {ys : List V}, DvL H ys (A.map pD) → DvL H' ys (A.map pD)
  | [], _, q => q
  | a :: A, _, ⟨v, r, e, ⟨t, ws, e2, ht, hl, hw⟩, h⟩ => by
    refine ⟨v, r, e, ⟨t, ws, e2, s _ _ (fun z => by rw [z, hx] at ht; cases ht) ht, hl, ?_⟩, pairs_sb hx s h⟩
    obtain ⟨_, _, rfl, rfl, _, _, rfl, rfl, rfl⟩ := hw
    exact ⟨_, _, rfl, rfl, _, _, rfl, rfl, rfl⟩
/-- rows that are new, empty lists -/
def NewRows (G H : Hp) (L : Addr) (bs : List Addr) : Prop := bs.Nodup ∧ ∀ b ∈ bs, b ≠ L ∧ G b = none ∧ H b = some (.lst [])
theorem NewRows.nil {G H : Hp} {L : Addr} : NewRows G H L [] := ⟨List.nodup_nil, fun b h => nomatch h⟩
theorem NewRows.add {G H : Hp} {L b : Addr} {bs : List Addr} {l : List V} (h : NewRows G H L bs) (s : Same G H) (hL : H L = some (.lst l)) (hb : Nw H b) (xs : List V) : NewRows G (upd (upd H b (.lst [])) L (.lst xs)) L (bs ++ [b]) := by
  have nL : L ≠ b := nw_ne hb hL
  refine ⟨List.nodup_append.mpr ⟨h.1, by simp, fun y hy z hz => ?_⟩, fun y hy => ?_⟩
  · rw [List.mem_singleton.mp hz]
    exact nw_ne hb (h.2 y hy).2.2
  · rcases List.mem_append.mp hy with hy | hy
    · obtain ⟨h1, h2, h3⟩ := h.2 y hy
      exact ⟨h1, h2, (upd_ne h1).trans (nw_new hb _ _ h3)⟩
    · rw [List.mem_singleton.mp hy]
      exact ⟨nL.symm, s.free hb, (upd_ne nL.symm).trans upd_same⟩
theorem Rows.put {H : Hp} {bs : List Addr} {f : Int → List Int} {u : Nat} {b : Addr} {z : Int} (h : Rows H bs f) (nd : bs.Nodup) (hb : bs[u]? = some b) (g : Int → List Int) (h1 : g u = f u ++ [z]) (h2 : ∀ w : Nat, w ≠ u → g w = f w) :
    Rows (upd H b (.lst ((f u).map V.int ++ [.int z]))) bs g := fun w c hc => by
  by_cases e : w = u
  · subst e
    rw [hb] at hc
    cases hc
    rw [h1, List.map_append]
    exact upd_same
  · have n : c ≠ b := fun q => by
      subst q
      have l1 := (List.getElem?_eq_some_iff.mp hc).1
      exact e ((List.getElem?_inj l1 nd).mp (hc.trans hb.symm))
    rw [h2 w e]
    exact (upd_ne n).trans (h w c hc)
theorem Rows.other {H : Hp} {bs : List Addr} {f : Int → List Int} {b : Addr} {o : HO} (h : Rows H bs f) (n : b ∉ bs) : Rows (upd H b o) bs f := fun w c hc =>
  (upd_ne (fun q => n (by rw [← q]; exact List.mem_of_getElem? hc))).trans (h w c hc)
theorem pairs_k {H H' : Hp} (s : ∀ t l, H t = some (.tup l) → H' t = some (.tup l)) : ∀ {A : List (Int × Int)} {ys : List V}, DvL H ys (A.map pD) → DvL H' ys (A.map pD)
  | [], _, q => q
  | a :: A, _, ⟨v, r, e, ⟨t, ws, e2, ht, hl, hw⟩, h⟩ => by
    refine ⟨v, r, e, ⟨t, ws, e2, s _ _ ht, hl, ?_⟩, pairs_k s h⟩
    obtain ⟨_, _, rfl, rfl, _, _, rfl, rfl, rfl⟩ := hw
    exact ⟨_, _, rfl, rfl, _, _, rfl, rfl, rfl⟩
theorem outs_len (A : List (Int × Int)) (u : Int) : ((outsOf A u).map V.int).length ≤ A.length := by
  unfold outsOf
  rw [List.length_map, List.length_map]
  exact List.length_filter_le _ _
theorem ins_len (A : List (Int × Int)) (u : Int) : ((insOf A u).map V.int).length ≤ A.length := by
  unfold insOf
  rw [List.length_map, List.length_map]
  exact List.length_filter_le _ _
end Gx

set_option Elab.async false
set_option linter.all false
set_option maxRecDepth 100000
set_option maxHeartbeats 4000000
/-! own __len__. -/
namespace Gx
open PySem PySem.Spec PyProof.Rows L2
section
variable {X : Cx} {k : Nat} {f C : Addr} {fd : FuncData} {sp : Sp}
def rLenI (C : Addr) (sp : Sp) : List V → Hp → VK → Prop := fun xs H Q => ∃ (a dx : Addr) (fs : List (Str × V)), xs = [.ref a] ∧ H a = some (.ins C dx fs) ∧ sp [.ref a] H (fun v H' => ∃ n : Int, v = .int n ∧ 0 ≤ n ∧ n < 2 ^ 63 ∧ Q (.int n) H') E0
theorem call_lenI (me : Meth X.K C "__len__" f) (F : FnOk X.prog X.w X.K X.mg X.base CX0 k f fd ["self"] sp) (hr : Room (k + 1) X.A) (hb : Binds X.K fd ["self"] []) : CallR X (.builtin "len") (rLenI C sp) := by
  intro pins s σ H xs us Q I r h
  obtain ⟨a, dx, fs, rfl, ea, h⟩ := h
  obtain rfl := Vals.ref1 r
  obtain ⟨mA, O, _, _, _, _⟩ := ins_get I.hok ea
  obtain ⟨od, J, _⟩ := O.look
  refine Calls.call_function_entry PySem.kind_len PySem.plain_len PySem.entry_len (PySem.args_len1 _) ?_
  unfold Builtin.«len»
  refine wpAny_bind (m := oneArg "len" _) (wpAny_pure ?_)
  refine wpAny_bind (m := callSpecial? (.ref a) (Str.ofString "__len__")) (PySem.W.special_fn I.kIn J me.at_ (beq_iff_eq.mp me.fn) (wpAny_call (codeAny_mono (F.run X.A.in1 X.stack s H ⟨[.ref a], []⟩ [.ref a] [.ref a] (fun v H' => ∃ n : Int, v = .int n ∧ 0 ≤ n ∧ n < 2 ^ 63 ∧ Q (.int n) H') E0 hr.in1 I.env0.in1 (by have := hb s [.ref a] I.kIn rfl; exact this) (.cons rfl .nil) h) fun r s' hq => ?_)))
  rcases r with er | fl
  · exact hq.elim
  · cases fl with
    | ret u =>
      obtain ⟨v, H', I2, rv, n, rfl, n0, n1, q⟩ := I.after hq
      obtain ⟨t, rfl⟩ := rv
      show wpAny _ _ _ _ _ _
      refine wpAny_bind (wpAny_holding (wpAny_pure ?_))
      refine wpAny_bind (wpAny_letGo ?_)
      show wpAny _ _ (if n < 0 then _ else _) _ _ _
      rw [if_neg (by omega)]
      show wpAny _ _ (if n ≥ 2 ^ 63 then _ else _) _ _ _
      rw [if_neg (by omega)]
      exact wpAny_bind (wpAny_mkInt (wpAny_pure ⟨_, rfl, .int n, H', I2.tok _, ⟨_, rfl⟩, q⟩))
    | next => exact hq.elim
    | brk => exact hq.elim
    | cont => exact hq.elim
def rInI (C : Addr) (sp : Sp) : R2 := fun x y H Q => ∃ (a dx : Addr) (fs : List (Str × V)), y = .ref a ∧ H a = some (.ins C dx fs) ∧ sp [.ref a, x] H (fun v H' => ∃ b : Bool, v = .bl b ∧ Q (.bl b) H') E0
theorem op_inI {nm : Str} (me : Meth X.K C "__contains__" f) (F : FnOk X.prog X.w X.K X.mg X.base CX0 k f fd ["self", nm] sp) (hr : Room k X.A) (hb : Binds X.K fd ["self", nm] []) : OpR X (compareOp .In) (rInI C sp) := by
  intro pins s σ H x y u v Q I rx ry h
  obtain ⟨a, dx, fs, rfl, ea, h⟩ := h
  obtain rfl : v = Value.ref a := ry
  obtain ⟨mA, O, _, _, _, _⟩ := ins_get I.hok ea
  obtain ⟨od, J, _⟩ := O.look
  refine wpAny_bind ?_
  unfold contains
  refine wpAny_holding (wpAny_bind (wpAny_bind (J.type.here ((PySem.W.looks_findIn I.kIn me.at_).here ?_))))
  rw [if_neg (by simp)]
  refine wpAny_bind (PySem.W.unlessNone_K I.kIn J me.at_ me.fn (wpAny_call (codeAny_mono (F.run X.A X.stack s H ⟨[.ref a, u], []⟩ [.ref a, u] [.ref a, x] (fun v H' => ∃ b : Bool, v = .bl b ∧ Q (.bl b) H') E0 hr I.env0 (by have := hb s [.ref a, u] I.kIn rfl; exact this) (.cons rfl (.cons rx .nil)) h) fun r s' hq => ?_)))
  rcases r with er | fl
  · exact hq.elim
  · cases fl with
    | ret u2 =>
      obtain ⟨v, H', I2, rv, b, rfl, q⟩ := I.after hq
      obtain rfl : u2 = Value.bool b := rv
      exact wpAny_truthy_bool (wpAny_pure ⟨.bl b, H', I2, rfl, q⟩)
    | next => exact hq.elim
    | brk => exact hq.elim
    | cont => exact hq.elim
end
/-! ### a method called inside a try -/
def tMethS (C : Addr) (m : Str) (sp : Sp) (E : L2.St → XK) (ta : TE) (t : TA) : TE := fun σ H Q => ta σ H fun x G => ∃ (a dx : Addr) (fs : List (Str × V)), x = .ref a ∧ G a = some (.ins C dx fs) ∧ fs.lookup m = none ∧ t σ G fun vs G2 => sp (x :: vs) G2 Q (E σ)
section
variable {X : Cx} {CX : CXT} {k : Nat} {f C : Addr} {fd : FuncData} {ps : List Str} {sp : Sp} {E : L2.St → XK} {m : Str} {pos apos : Pos} {e o : Expr} {es : List Expr} {ta : TE} {t : TA}
theorem pe_methS {pl : Sem Bool} (he : PE X o ta) (c : Cls X.K C) (hm : Meth X.K C m f) (F : FnOk X.prog X.w X.K X.mg X.base CX k f fd ps sp) (hr : Room k X.A) (hb : Binds X.K fd ps []) (px : ∀ σ, PassesAt CX X σ (E σ)) (ha : PA X (e :: es) t)
    (hst : starEach (e :: es) X.env = (false, eval e X.env) :: starEach es X.env := by rfl) (hpl : (backTo pos (starEach es X.env)).any (·.1) = false := by rfl)
    (ht : eval (.Call (.Attribute o m apos) (e :: es) [] pos) X.env = (do
      let ov ← eval o X.env
      standAt apos.atName
      let (g, first) ← holding [ov] (getMethod ov m pl)
      callWith pos g first (backTo pos (starEach (e :: es) X.env)) (backToKw pos (keywordEach [] X.env))) := by rfl) :
    PE X (.Call (.Attribute o m apos) (e :: es) [] pos) (tMethS C m sp E ta t) := by
  refine ⟨fun pins s σ H Q I h => PySem.W.methodCall_KW (pl := pl) (thn (he.run pins s σ H _ I h) fun u s1 r1 => ?_) ht⟩
  obtain ⟨x, G, I1, rx, a, dx, fs, rfl, ea, l, q⟩ := r1
  obtain rfl : u = Value.ref a := rx
  refine getmeth_ok I1 ea c hm l (PySem.W.callWith_K (first := [.ref a]) (h₀ := X.base) I.ok.mod.kin hm.kp (thn (ha.run pos pins s1 σ G _ I1 q) fun us s2 r2 => ?_) hst hpl)
  obtain ⟨vs, G2, I2, rv, q2⟩ := r2
  exact ⟨I2.kIn, run_fnS (us := .ref a :: us) (vs := .ref a :: vs) F hr hb (px σ) I2 (.cons rfl rv) q2⟩
end
theorem e_methS {σ : L2.St} {H : Hp} {Q : VK} {C : Addr} {m : Str} {sp : Sp} {E : L2.St → XK} {ta : TE} {t : TA} (k : ta σ H fun x G => ∃ (a dx : Addr) (fs : List (Str × V)), x = .ref a ∧ G a = some (.ins C dx fs) ∧ fs.lookup m = none ∧ t σ G fun vs G2 => sp (x :: vs) G2 Q (E σ)) : tMethS C m sp E ta t σ H Q := k
/-! ### truth of a value -/
def tTru (K : PySem.W.Frag) (ta : TE) : TT := fun σ H Q => ta σ H fun x H' => ∃ k, TruV K x H' k ∧ Q k H'
theorem k_tru {X : Cx} {a : Expr} {ta : TE} (K : PySem.W.Frag) (ha : PE X a ta) (he : ∀ whole, isTrue a X.env whole = (do let v ← whole; standAt a.pos; holding [v] (truthy v)) := by intro _; rfl) (hK : X.K = K := by rfl) : PT X a (tTru K ta) := by
  subst hK
  exact pt_truth ha he
theorem e_tru {K : PySem.W.Frag} {σ : L2.St} {H : Hp} {ta : TE} {Q : Bool → Hp → Prop} (k : ta σ H fun x H' => ∃ k, TruV K x H' k ∧ Q k H') : tTru K ta σ H Q := k
end Gx

set_option Elab.async false
set_option linter.all false
set_option maxRecDepth 100000
set_option maxHeartbeats 4000000
/-! shifts, bits, sorted of pairs backwards. -/
namespace Gx
open PySem PySem.Spec PyProof.Rows L2
def rShl : R2 := fun x y H Q => ∃ (i : Int) (k : Nat), x = .int i ∧ y = .int (k : Int) ∧ CShl i (k : Int) ∧ Q (.int (i * 2 ^ k)) H
def rShr : R2 := fun x y H Q => ∃ (i : Int) (k : Nat), x = .int i ∧ y = .int (k : Int) ∧ Q (.int (i / 2 ^ k)) H
theorem op_shl1 {X : Cx} : OpR X (binaryOp .LShift) rShl := op_shlN
theorem op_shr1 {X : Cx} : OpR X (binaryOp .RShift) rShr := op_shrN
def rOr : R2 := rI0 fun i j => .int (Builtin.bitOr i j)
def rAnd : R2 := rI0 fun i j => .int (Builtin.bitAnd i j)
def rXor : R2 := rI0 fun i j => .int (Builtin.bitXor i j)
theorem op_or1 {X : Cx} : OpR X (binaryOp .BitOr) rOr := op_or
theorem op_and1 {X : Cx} : OpR X (binaryOp .BitAnd) rAnd := op_and
theorem op_xor1 {X : Cx} : OpR X (binaryOp .BitXor) rXor := op_xor
theorem r_shl {H : Hp} {Q : VK} {i : Int} {k : Nat} (c : CShl i (k : Int)) (q : Q (.int (i * 2 ^ k)) H) : rShl (.int i) (.int (k : Int)) H Q := ⟨i, k, rfl, rfl, c, q⟩
theorem r_shr {H : Hp} {Q : VK} {i : Int} {k : Nat} (q : Q (.int (i / 2 ^ k)) H) : rShr (.int i) (.int (k : Int)) H Q := ⟨i, k, rfl, rfl, q⟩
theorem r_or {H : Hp} {Q : VK} {i j : Int} (q : Q (.int (Builtin.bitOr i j)) H) : rOr (.int i) (.int j) H Q := ⟨i, j, rfl, rfl, q⟩
theorem r_and {H : Hp} {Q : VK} {i j : Int} (q : Q (.int (Builtin.bitAnd i j)) H) : rAnd (.int i) (.int j) H Q := ⟨i, j, rfl, rfl, q⟩
theorem r_xor {H : Hp} {Q : VK} {i j : Int} (q : Q (.int (Builtin.bitXor i j)) H) : rXor (.int i) (.int j) H Q := ⟨i, j, rfl, rfl, q⟩
/-- sorted(l, reverse=True), l of pairs of ints -/
def rSortedPR (K : PySem.W.Frag) : List V → List V → Hp → VK → Prop := fun vs zs H Q => ∃ (a : Addr) (xs : List V) (k : V → Int × Int), vs = [V.ref a] ∧ zs = [.bl true] ∧ SqL K H a xs ∧ (∀ x ∈ xs, ∃ t, x = V.ref t ∧ H t = some (.tup [.int (k x).1, .int (k x).2])) ∧
  ∀ ys p, SrtO.Srtd (ltP k) ys → ys.Perm xs → H p = none → Q (.ref p) (upd H p (.lst ys.reverse))
theorem cr_sortedPR {X : Cx} : CallRK X (.builtin "sorted") [Str.ofString "reverse"] (rSortedPR X.K) := by
  intro pins s σ H vs zs us ws Q I r rz h
  obtain ⟨a, xs, k, rfl, rfl, hs, hx, q⟩ := h
  obtain rfl := Vals.ref1 r
  obtain ⟨w1, rfl, e1⟩ := vals1 rz
  obtain rfl : w1 = Value.bool true := e1
  obtain ⟨its, rv, hl, hz⟩ := I.list hs
  obtain ⟨e1, e2⟩ := refs_back rv fun x m => by
    obtain ⟨t, e, _⟩ := hx x m
    exact ⟨t, e⟩
  have hp : ∀ v ∈ its, Srt.IsPair s.heap v (k (backV v)).1 (k (backV v)).2 := fun v hv => by
    obtain ⟨t, rfl⟩ := e2 v hv
    have hm : V.ref t ∈ xs := by rw [e1]; exact List.mem_map.mpr ⟨_, hv, rfl⟩
    obtain ⟨t', e, ht⟩ := hx _ hm
    cases e
    obtain ⟨_, its2, r2, o, ho, hc, n, hd⟩ := I.hok _ _ ht
    obtain ⟨u1, u2, rfl, ri, rj⟩ := vals2 r2
    obtain ⟨t1, rfl⟩ := ri
    obtain ⟨t2, rfl⟩ := rj
    exact ⟨t, o, t1, t2, n, rfl, ho, hc, hd⟩
  refine SrtR.sorted_ordK (b := true) (fun _ => rfl) (PyProof.Rows.args_sorted_rev _ _) (fun _ => PyProof.Rows.args_list_sort_rev _ _) (SrtO.swo_lex fun u => k (backV u)) hl.isList (by rw [← rv.length]; exact hz)
    (fun h2 h₁ a' ha' kp => SrtO.pairs_sortableO (by omega) (fun v hv => (hp v hv).keeps fun b o e _ => (kp b o e).2) fun o e => by
      have e' : h₁.get? a' = some o := e
      rw [ha'] at e'
      cases e'
      exact fun z => by
        injection z with z3
        exact absurd z3 (by decide)) fun out h1 h2 => ?_
  have h2p : out.Perm its := h2.perm.trans (List.reverse_perm _)
  have h3 : ∀ u ∈ out, ∃ a, u = Value.ref a := fun u hu => e2 u (h2p.mem_iff.mp hu)
  have hb : (out.map backV).Perm xs := by
    rw [e1]
    exact h2p.map backV
  obtain ⟨ep, he'⟩ := PyProof.Rows.sortedAll_at s.heap its (if true = true then out.toArray.reverse else out.toArray)
  have hlen : (out.map backV).reverse.length ≤ sizeLine := by
    rw [List.length_reverse, hb.length_eq]
    exact hz
  have er : (out.map backV).reverse = out.reverse.map backV := by rw [List.map_reverse]
  have h4 : ∀ u ∈ out.reverse, ∃ a, u = Value.ref a := fun u hu => h3 u (List.mem_reverse.mp hu)
  have ea : out.reverse.toArray = out.toArray.reverse := by
    apply Array.ext'
    rw [Array.toList_reverse]
  exact ⟨.ref _, upd H (s.heap.objs.size + 1) (.lst (out.map backV).reverse), I.laid (t' := s.toks) (fun _ _ => PyProof.Rows.sortedAll_old) (Nat.le_succ _) ⟨hlen, out.reverse, ep, by rw [er]; exact vals_back h4, by rw [ea]; exact he'⟩, rfl, q _ _ (SrtO.srtd_map h1) hb (I.hok.fresh (Nat.le_succ _))⟩
theorem k_sortR {X : Cx} (K : PySem.W.Frag) (hK : X.K = K := by rfl) : CallRK X (.builtin "sorted") [Str.ofString "reverse"] (rSortedPR K) := by subst hK; exact cr_sortedPR
theorem e_CKw {σ : L2.St} {H : Hp} {Q : VK} {r : List V → List V → Hp → VK → Prop} {t tk : TA} (k : t σ H fun vs H1 => tk σ H1 fun zs H2 => r vs zs H2 Q) : tCKw r t tk σ H Q := k
end Gx

set_option Elab.async false
set_option linter.all false
set_option maxRecDepth 100000
set_option maxHeartbeats 4000000
namespace Lk
open PySem L2 Gx PyProof.Rows
def top (i : Nat) : Stmt := PySem.Challenge.pw_huewalks_k08_windows.main.body.getD i (.Pass ⟨0, 0, 0, 0⟩)
abbrev s_is_whole : Stmt := top 9
abbrev s_is_sequence : Stmt := top 10
abbrev s_is_between : Stmt := top 11
abbrev s_BadWeb__init__ : Stmt := inClass (top 3) 0
abbrev s_BadOrder__init__ : Stmt := inClass (top 4) 0
abbrev s_BadWalk__init__ : Stmt := inClass (top 5) 0
abbrev s_TooMany__init__ : Stmt := inClass (top 7) 0
abbrev s_check_number : Stmt := top 12
abbrev s_is_place_pair : Stmt := top 17
abbrev s_Web__init__ : Stmt := inClass (top 16) 0
abbrev s_is_rising_pair : Stmt := top 28
abbrev s_reach_of : Stmt := top 29
abbrev s_Order__init__ : Stmt := inClass (top 25) 0
abbrev s_check_span : Stmt := top 22
abbrev s_windows : Stmt := top 21
abbrev s_law_mix : Stmt := top 33
abbrev s_law_store : Stmt := top 34
abbrev s_law_take : Stmt := top 35
abbrev s_law_edge : Stmt := top 36
abbrev s_law_row : Stmt := top 37
abbrev s_law_form : Stmt := top 38
abbrev s_law_odd : Stmt := top 39
abbrev s_law_far : Stmt := top 40
abbrev s_law_not_number : Stmt := top 41
abbrev s_law_not_sequence : Stmt := top 42
abbrev s_law_is_integer : Stmt := top 43
abbrev s_law_same : Stmt := top 44
abbrev s_law_answer : Stmt := top 45
abbrev s_law_members : Stmt := top 46
abbrev s_law_due : Stmt := top 47
abbrev s_law_odd_member : Stmt := top 48
abbrev s_law_refuses : Stmt := top 49
abbrev s_law : Stmt := top 50
theorem sc_is_whole : FnScope ["value"] ["value"] (defScope s_is_whole) := ⟨rfl, rfl, rfl, by decide +kernel, rfl, by decide +kernel, by decide +kernel⟩
theorem sc_is_sequence : FnScope ["value"] ["value"] (defScope s_is_sequence) := ⟨rfl, rfl, rfl, by decide +kernel, rfl, by decide +kernel, by decide +kernel⟩
theorem sc_is_between : FnScope ["low", "high", "value"] ["low", "high", "value"] (defScope s_is_between) := ⟨rfl, rfl, rfl, by decide +kernel, rfl, by decide +kernel, by decide +kernel⟩
theorem sc_BadWeb__init__ : FnScope ["self", "bad_at"] ["self", "bad_at"] (defScope s_BadWeb__init__) := ⟨rfl, rfl, rfl, by decide +kernel, rfl, by decide +kernel, by decide +kernel⟩
theorem sc_BadOrder__init__ : FnScope ["self", "bad_at"] ["self", "bad_at"] (defScope s_BadOrder__init__) := ⟨rfl, rfl, rfl, by decide +kernel, rfl, by decide +kernel, by decide +kernel⟩
theorem sc_BadWalk__init__ : FnScope ["self", "bad_at"] ["self", "bad_at"] (defScope s_BadWalk__init__) := ⟨rfl, rfl, rfl, by decide +kernel, rfl, by decide +kernel, by decide +kernel⟩
theorem sc_TooMany__init__ : FnScope ["self", "most"] ["self", "most"] (defScope s_TooMany__init__) := ⟨rfl, rfl, rfl, by decide +kernel, rfl, by decide +kernel, by decide +kernel⟩
theorem sc_check_number : FnScope ["low", "high", "value"] ["low", "high", "value"] (defScope s_check_number) := ⟨rfl, rfl, rfl, by decide +kernel, rfl, by decide +kernel, by decide +kernel⟩
theorem sc_is_place_pair : FnScope ["places", "value"] ["places", "value"] (defScope s_is_place_pair) := ⟨rfl, rfl, rfl, by decide +kernel, rfl, by decide +kernel, by decide +kernel⟩
theorem sc_Web__init__ : FnScope ["self", "places", "arrows", "known", "i", "arrow", "u", "v", "_"] ["self", "places", "arrows"] (defScope s_Web__init__) := ⟨rfl, rfl, rfl, by decide +kernel, rfl, by decide +kernel, by decide +kernel⟩
theorem sc_is_rising_pair : FnScope ["size", "value"] ["size", "value"] (defScope s_is_rising_pair) := ⟨rfl, rfl, rfl, by decide +kernel, rfl, by decide +kernel, by decide +kernel⟩
theorem sc_reach_of : FnScope ["size", "pairs", "reach", "a", "b", "pair"] ["size", "pairs"] (defScope s_reach_of) := ⟨rfl, rfl, rfl, by decide +kernel, rfl, by decide +kernel, by decide +kernel⟩
theorem sc_Order__init__ : FnScope ["self", "size", "pairs", "i", "pair"] ["self", "size", "pairs"] (defScope s_Order__init__) := ⟨rfl, rfl, rfl, by decide +kernel, rfl, by decide +kernel, by decide +kernel⟩
theorem sc_check_span : FnScope ["span"] ["span"] (defScope s_check_span) := ⟨rfl, rfl, rfl, by decide +kernel, rfl, by decide +kernel, by decide +kernel⟩
theorem sc_windows : FnScope ["walk", "span", "i", "member"] ["walk", "span"] (defScope s_windows) := ⟨rfl, rfl, rfl, by decide +kernel, rfl, by decide +kernel, by decide +kernel⟩
theorem sc_law_mix : FnScope ["value", "step", "first"] ["value", "step"] (defScope s_law_mix) := ⟨rfl, rfl, rfl, by decide +kernel, rfl, by decide +kernel, by decide +kernel⟩
theorem sc_law_store : FnScope ["script", "cell"] ["script"] (defScope s_law_store) := ⟨rfl, rfl, rfl, by decide +kernel, rfl, by decide +kernel, by decide +kernel⟩
theorem sc_law_take : FnScope ["store", "many", "cell", "step", "value", "size", "k", "told"] ["store", "many"] (defScope s_law_take) := ⟨rfl, rfl, rfl, by decide +kernel, rfl, by decide +kernel, by decide +kernel⟩
theorem sc_law_edge : FnScope ["store", "low", "high", "kind"] ["store", "low", "high"] (defScope s_law_edge) := ⟨rfl, rfl, rfl, by decide +kernel, rfl, by decide +kernel, by decide +kernel⟩
theorem sc_law_row : FnScope ["store", "size", "many", "kind", "out", "k"] ["store", "size", "many"] (defScope s_law_row) := ⟨rfl, rfl, rfl, by decide +kernel, rfl, by decide +kernel, by decide +kernel⟩
theorem sc_law_form : FnScope ["store", "row"] ["store", "row"] (defScope s_law_form) := ⟨rfl, rfl, rfl, by decide +kernel, rfl, by decide +kernel, by decide +kernel⟩
theorem sc_law_odd : FnScope ["store", "row"] ["store"] (defScope s_law_odd) := ⟨rfl, rfl, rfl, by decide +kernel, rfl, by decide +kernel, by decide +kernel⟩
theorem sc_law_far : FnScope ["store", "power", "k"] ["store"] (defScope s_law_far) := ⟨rfl, rfl, rfl, by decide +kernel, rfl, by decide +kernel, by decide +kernel⟩
theorem sc_law_not_number : FnScope ["store", "low", "high", "kind", "far"] ["store", "low", "high"] (defScope s_law_not_number) := ⟨rfl, rfl, rfl, by decide +kernel, rfl, by decide +kernel, by decide +kernel⟩
theorem sc_law_not_sequence : FnScope ["store", "row"] ["store"] (defScope s_law_not_sequence) := ⟨rfl, rfl, rfl, by decide +kernel, rfl, by decide +kernel, by decide +kernel⟩
theorem sc_law_is_integer : FnScope ["value"] ["value"] (defScope s_law_is_integer) := ⟨rfl, rfl, rfl, by decide +kernel, rfl, by decide +kernel, by decide +kernel⟩
theorem sc_law_same : FnScope ["told", "due", "k"] ["told", "due"] (defScope s_law_same) := ⟨rfl, rfl, rfl, by decide +kernel, rfl, by decide +kernel, by decide +kernel⟩
theorem sc_law_answer : FnScope ["row", "span", "e", "told"] ["row", "span"] (defScope s_law_answer) := ⟨rfl, rfl, rfl, by decide +kernel, rfl, by decide +kernel, by decide +kernel⟩
theorem sc_law_members : FnScope ["store", "kind", "size", "step", "one", "k"] ["store"] (defScope s_law_members) := ⟨rfl, rfl, rfl, by decide +kernel, rfl, by decide +kernel, by decide +kernel⟩
theorem sc_law_due : FnScope ["row", "span", "parts", "part", "one"] ["row", "span"] (defScope s_law_due) := ⟨rfl, rfl, rfl, by decide +kernel, rfl, by decide +kernel, by decide +kernel⟩
theorem sc_law_odd_member : FnScope ["store", "row"] ["store"] (defScope s_law_odd_member) := ⟨rfl, rfl, rfl, by decide +kernel, rfl, by decide +kernel, by decide +kernel⟩
theorem sc_law_refuses : FnScope ["store", "row", "span", "wrong", "one", "value", "at", "bent", "given"] ["store", "row", "span"] (defScope s_law_refuses) := ⟨rfl, rfl, rfl, by decide +kernel, rfl, by decide +kernel, by decide +kernel⟩
theorem sc_law : FnScope ["script", "store", "row", "span", "given", "due", "told", "other", "second", "one"] ["script"] (defScope s_law) := ⟨rfl, rfl, rfl, by decide +kernel, rfl, by decide +kernel, by decide +kernel⟩
structure Ad where
  is_whole : Addr
  is_sequence : Addr
  is_between : Addr
  BadWeb__init__ : Addr
  BadOrder__init__ : Addr
  BadWalk__init__ : Addr
  TooMany__init__ : Addr
  check_number : Addr
  is_place_pair : Addr
  Web__init__ : Addr
  is_rising_pair : Addr
  reach_of : Addr
  Order__init__ : Addr
  check_span : Addr
  windows : Addr
  law_mix : Addr
  law_store : Addr
  law_take : Addr
  law_edge : Addr
  law_row : Addr
  law_form : Addr
  law_odd : Addr
  law_far : Addr
  law_not_number : Addr
  law_not_sequence : Addr
  law_is_integer : Addr
  law_same : Addr
  law_answer : Addr
  law_members : Addr
  law_due : Addr
  law_odd_member : Addr
  law_refuses : Addr
  law : Addr
  BadNumber : Addr
  BadOrder : Addr
  BadWalk : Addr
  BadWeb : Addr
  HueError : Addr
  Order : Addr
  TooMany : Addr
  Web : Addr
  df_Web__init___0 : Addr
  df_Order__init___0 : Addr
structure Fd where
  is_whole : FuncData
  is_sequence : FuncData
  is_between : FuncData
  BadWeb__init__ : FuncData
  BadOrder__init__ : FuncData
  BadWalk__init__ : FuncData
  TooMany__init__ : FuncData
  check_number : FuncData
  is_place_pair : FuncData
  Web__init__ : FuncData
  is_rising_pair : FuncData
  reach_of : FuncData
  Order__init__ : FuncData
  check_span : FuncData
  windows : FuncData
  law_mix : FuncData
  law_store : FuncData
  law_take : FuncData
  law_edge : FuncData
  law_row : FuncData
  law_form : FuncData
  law_odd : FuncData
  law_far : FuncData
  law_not_number : FuncData
  law_not_sequence : FuncData
  law_is_integer : FuncData
  law_same : FuncData
  law_answer : FuncData
  law_members : FuncData
  law_due : FuncData
  law_odd_member : FuncData
  law_refuses : FuncData
  law : FuncData
structure Txt (K : PySem.W.Frag) (mg : Str → Option Value) (a : Ad) (d : Fd) : Prop where
  F_is_whole : Fun K "is_whole" "is_whole" s_is_whole a.is_whole d.is_whole
  b_is_whole : Binds K d.is_whole ["value"] []
  g_is_whole : mg "is_whole" = some (.ref a.is_whole)
  F_is_sequence : Fun K "is_sequence" "is_sequence" s_is_sequence a.is_sequence d.is_sequence
  b_is_sequence : Binds K d.is_sequence ["value"] []
  g_is_sequence : mg "is_sequence" = some (.ref a.is_sequence)
  F_is_between : Fun K "is_between" "is_between" s_is_between a.is_between d.is_between
  b_is_between : Binds K d.is_between ["low", "high", "value"] []
  g_is_between : mg "is_between" = some (.ref a.is_between)
  F_BadWeb__init__ : Fun K "__init__" "BadWeb.__init__" s_BadWeb__init__ a.BadWeb__init__ d.BadWeb__init__
  b_BadWeb__init__ : Binds K d.BadWeb__init__ ["self", "bad_at"] []
  F_BadOrder__init__ : Fun K "__init__" "BadOrder.__init__" s_BadOrder__init__ a.BadOrder__init__ d.BadOrder__init__
  b_BadOrder__init__ : Binds K d.BadOrder__init__ ["self", "bad_at"] []
  F_BadWalk__init__ : Fun K "__init__" "BadWalk.__init__" s_BadWalk__init__ a.BadWalk__init__ d.BadWalk__init__
  b_BadWalk__init__ : Binds K d.BadWalk__init__ ["self", "bad_at"] []
  F_TooMany__init__ : Fun K "__init__" "TooMany.__init__" s_TooMany__init__ a.TooMany__init__ d.TooMany__init__
  b_TooMany__init__ : Binds K d.TooMany__init__ ["self", "most"] []
  F_check_number : Fun K "check_number" "check_number" s_check_number a.check_number d.check_number
  b_check_number : Binds K d.check_number ["low", "high", "value"] []
  g_check_number : mg "check_number" = some (.ref a.check_number)
  F_is_place_pair : Fun K "_is_place_pair" "_is_place_pair" s_is_place_pair a.is_place_pair d.is_place_pair
  b_is_place_pair : Binds K d.is_place_pair ["places", "value"] []
  g_is_place_pair : mg "_is_place_pair" = some (.ref a.is_place_pair)
  F_Web__init__ : FunD K "__init__" "Web.__init__" (defArgs s_Web__init__) (defBody s_Web__init__) (defScope s_Web__init__) [.ref a.df_Web__init___0] [] a.Web__init__ d.Web__init__
  em_Web__init___0 : Emp K a.df_Web__init___0
  F_is_rising_pair : Fun K "_is_rising_pair" "_is_rising_pair" s_is_rising_pair a.is_rising_pair d.is_rising_pair
  b_is_rising_pair : Binds K d.is_rising_pair ["size", "value"] []
  g_is_rising_pair : mg "_is_rising_pair" = some (.ref a.is_rising_pair)
  F_reach_of : Fun K "_reach_of" "_reach_of" s_reach_of a.reach_of d.reach_of
  b_reach_of : Binds K d.reach_of ["size", "pairs"] []
  g_reach_of : mg "_reach_of" = some (.ref a.reach_of)
  F_Order__init__ : FunD K "__init__" "Order.__init__" (defArgs s_Order__init__) (defBody s_Order__init__) (defScope s_Order__init__) [.ref a.df_Order__init___0] [] a.Order__init__ d.Order__init__
  em_Order__init___0 : Emp K a.df_Order__init___0
  F_check_span : Fun K "check_span" "check_span" s_check_span a.check_span d.check_span
  b_check_span : Binds K d.check_span ["span"] []
  g_check_span : mg "check_span" = some (.ref a.check_span)
  F_windows : Fun K "windows" "windows" s_windows a.windows d.windows
  b_windows : Binds K d.windows ["walk", "span"] []
  g_windows : mg "windows" = some (.ref a.windows)
  F_law_mix : Fun K "_law_mix" "_law_mix" s_law_mix a.law_mix d.law_mix
  b_law_mix : Binds K d.law_mix ["value", "step"] []
  g_law_mix : mg "_law_mix" = some (.ref a.law_mix)
  F_law_store : Fun K "_law_store" "_law_store" s_law_store a.law_store d.law_store
  b_law_store : Binds K d.law_store ["script"] []
  g_law_store : mg "_law_store" = some (.ref a.law_store)
  F_law_take : Fun K "_law_take" "_law_take" s_law_take a.law_take d.law_take
  b_law_take : Binds K d.law_take ["store", "many"] []
  g_law_take : mg "_law_take" = some (.ref a.law_take)
  F_law_edge : Fun K "_law_edge" "_law_edge" s_law_edge a.law_edge d.law_edge
  b_law_edge : Binds K d.law_edge ["store", "low", "high"] []
  g_law_edge : mg "_law_edge" = some (.ref a.law_edge)
  F_law_row : Fun K "_law_row" "_law_row" s_law_row a.law_row d.law_row
  b_law_row : Binds K d.law_row ["store", "size", "many"] []
  g_law_row : mg "_law_row" = some (.ref a.law_row)
  F_law_form : Fun K "_law_form" "_law_form" s_law_form a.law_form d.law_form
  b_law_form : Binds K d.law_form ["store", "row"] []
  g_law_form : mg "_law_form" = some (.ref a.law_form)
  F_law_odd : Fun K "_law_odd" "_law_odd" s_law_odd a.law_odd d.law_odd
  b_law_odd : Binds K d.law_odd ["store"] []
  g_law_odd : mg "_law_odd" = some (.ref a.law_odd)
  F_law_far : Fun K "_law_far" "_law_far" s_law_far a.law_far d.law_far
  b_law_far : Binds K d.law_far ["store"] []
  g_law_far : mg "_law_far" = some (.ref a.law_far)
  F_law_not_number : Fun K "_law_not_number" "_law_not_number" s_law_not_number a.law_not_number d.law_not_number
  b_law_not_number : Binds K d.law_not_number ["store", "low", "high"] []
  g_law_not_number : mg "_law_not_number" = some (.ref a.law_not_number)
  F_law_not_sequence : Fun K "_law_not_sequence" "_law_not_sequence" s_law_not_sequence a.law_not_sequence d.law_not_sequence
  b_law_not_sequence : Binds K d.law_not_sequence ["store"] []
  g_law_not_sequence : mg "_law_not_sequence" = some (.ref a.law_not_sequence)
  F_law_is_integer : Fun K "_law_is_integer" "_law_is_integer" s_law_is_integer a.law_is_integer d.law_is_integer
  b_law_is_integer : Binds K d.law_is_integer ["value"] []
  g_law_is_integer : mg "_law_is_integer" = some (.ref a.law_is_integer)
  F_law_same : Fun K "_law_same" "_law_same" s_law_same a.law_same d.law_same
  b_law_same : Binds K d.law_same ["told", "due"] []
  g_law_same : mg "_law_same" = some (.ref a.law_same)
  F_law_answer : Fun K "_law_answer" "_law_answer" s_law_answer a.law_answer d.law_answer
  b_law_answer : Binds K d.law_answer ["row", "span"] []
  g_law_answer : mg "_law_answer" = some (.ref a.law_answer)
  F_law_members : Fun K "_law_members" "_law_members" s_law_members a.law_members d.law_members
  b_law_members : Binds K d.law_members ["store"] []
  g_law_members : mg "_law_members" = some (.ref a.law_members)
  F_law_due : Fun K "_law_due" "_law_due" s_law_due a.law_due d.law_due
  b_law_due : Binds K d.law_due ["row", "span"] []
  g_law_due : mg "_law_due" = some (.ref a.law_due)
  F_law_odd_member : Fun K "_law_odd_member" "_law_odd_member" s_law_odd_member a.law_odd_member d.law_odd_member
  b_law_odd_member : Binds K d.law_odd_member ["store"] []
  g_law_odd_member : mg "_law_odd_member" = some (.ref a.law_odd_member)
  F_law_refuses : Fun K "_law_refuses" "_law_refuses" s_law_refuses a.law_refuses d.law_refuses
  b_law_refuses : Binds K d.law_refuses ["store", "row", "span"] []
  g_law_refuses : mg "_law_refuses" = some (.ref a.law_refuses)
  F_law : Fun K "law" "law" s_law a.law d.law
  b_law : Binds K d.law ["script"] []
  g_law : mg "law" = some (.ref a.law)
  c_LEAST_SPAN : ∃ t, mg "LEAST_SPAN" = some (.int 2 t)
  c_MOST_ARROWS : ∃ t, mg "MOST_ARROWS" = some (.int 2000 t)
  c_MOST_PLACES : ∃ t, mg "MOST_PLACES" = some (.int 2000 t)
  c_MOST_SPAN : ∃ t, mg "MOST_SPAN" = some (.int 6 t)
  c_MOST_THINGS : ∃ t, mg "MOST_THINGS" = some (.int 200 t)
  g_Order : mg "Order" = some (.ref a.Order)
  mk_Order : Mk K a.Order a.Order__init__
  is_Order : InsK K a.Order
  g_Web : mg "Web" = some (.ref a.Web)
  mk_Web : Mk K a.Web a.Web__init__
  is_Web : InsK K a.Web
  m_ValueError : mg "ValueError" = none
  m_bool : mg "bool" = none
  m_dict : mg "dict" = none
  m_enumerate : mg "enumerate" = none
  m_int : mg "int" = none
  m_isinstance : mg "isinstance" = none
  m_len : mg "len" = none
  m_list : mg "list" = none
  m_max : mg "max" = none
  m_min : mg "min" = none
  m_range : mg "range" = none
  m_sorted : mg "sorted" = none
  m_str : mg "str" = none
  m_tuple : mg "tuple" = none
  na_Order__reach : NoAttr K a.Order "_reach"
  na_Web__arrows : NoAttr K a.Web "_arrows"
  na_Web__ins : NoAttr K a.Web "_ins"
  na_Web__known : NoAttr K a.Web "_known"
  na_Web__outs : NoAttr K a.Web "_outs"
  g_BadNumber : mg "BadNumber" = some (.ref a.BadNumber)
  k_BadNumber : PySem.W.keepIn K (.ref a.BadNumber) = true
  e_BadNumber : ExC K a.BadNumber
  ty_BadNumber : PySem.W.typeIn K (.ref a.BadNumber) = some (.type "type")
  kv_BadNumber : PySem.W.kitOne K (.ref a.BadNumber) (.type "ValueError") = some true
  n_BadNumber : PySem.W.excIn K a.BadNumber [.type "ValueError", .type "Exception", .type "BaseException", .type "object"] "ValueError.__new__" = true
  g_BadOrder : mg "BadOrder" = some (.ref a.BadOrder)
  k_BadOrder : PySem.W.keepIn K (.ref a.BadOrder) = true
  e_BadOrder : ExC K a.BadOrder
  ty_BadOrder : PySem.W.typeIn K (.ref a.BadOrder) = some (.type "type")
  kv_BadOrder : PySem.W.kitOne K (.ref a.BadOrder) (.type "ValueError") = some true
  o_BadOrder : OexC K a.BadOrder
  i_BadOrder : PySem.W.findIn K (.ref a.BadOrder) "__init__" = some (some (.ref a.BadOrder__init__))
  ti_BadOrder : PySem.W.typeIn K (.ref a.BadOrder__init__) = some (.type "function")
  nf_BadOrder_bad_at : PySem.W.findIn K (.ref a.BadOrder) "bad_at" = some none
  g_BadWalk : mg "BadWalk" = some (.ref a.BadWalk)
  k_BadWalk : PySem.W.keepIn K (.ref a.BadWalk) = true
  e_BadWalk : ExC K a.BadWalk
  ty_BadWalk : PySem.W.typeIn K (.ref a.BadWalk) = some (.type "type")
  kv_BadWalk : PySem.W.kitOne K (.ref a.BadWalk) (.type "ValueError") = some true
  o_BadWalk : OexC K a.BadWalk
  i_BadWalk : PySem.W.findIn K (.ref a.BadWalk) "__init__" = some (some (.ref a.BadWalk__init__))
  ti_BadWalk : PySem.W.typeIn K (.ref a.BadWalk__init__) = some (.type "function")
  nf_BadWalk_bad_at : PySem.W.findIn K (.ref a.BadWalk) "bad_at" = some none
  g_BadWeb : mg "BadWeb" = some (.ref a.BadWeb)
  k_BadWeb : PySem.W.keepIn K (.ref a.BadWeb) = true
  e_BadWeb : ExC K a.BadWeb
  ty_BadWeb : PySem.W.typeIn K (.ref a.BadWeb) = some (.type "type")
  kv_BadWeb : PySem.W.kitOne K (.ref a.BadWeb) (.type "ValueError") = some true
  o_BadWeb : OexC K a.BadWeb
  i_BadWeb : PySem.W.findIn K (.ref a.BadWeb) "__init__" = some (some (.ref a.BadWeb__init__))
  ti_BadWeb : PySem.W.typeIn K (.ref a.BadWeb__init__) = some (.type "function")
  nf_BadWeb_bad_at : PySem.W.findIn K (.ref a.BadWeb) "bad_at" = some none
  g_HueError : mg "HueError" = some (.ref a.HueError)
  k_HueError : PySem.W.keepIn K (.ref a.HueError) = true
  e_HueError : ExC K a.HueError
  ty_HueError : PySem.W.typeIn K (.ref a.HueError) = some (.type "type")
  kv_HueError : PySem.W.kitOne K (.ref a.HueError) (.type "ValueError") = some true
  n_HueError : PySem.W.excIn K a.HueError [.type "ValueError", .type "Exception", .type "BaseException", .type "object"] "ValueError.__new__" = true
  g_TooMany : mg "TooMany" = some (.ref a.TooMany)
  k_TooMany : PySem.W.keepIn K (.ref a.TooMany) = true
  e_TooMany : ExC K a.TooMany
  ty_TooMany : PySem.W.typeIn K (.ref a.TooMany) = some (.type "type")
  kv_TooMany : PySem.W.kitOne K (.ref a.TooMany) (.type "ValueError") = some true
  o_TooMany : OexC K a.TooMany
  i_TooMany : PySem.W.findIn K (.ref a.TooMany) "__init__" = some (some (.ref a.TooMany__init__))
  ti_TooMany : PySem.W.typeIn K (.ref a.TooMany__init__) = some (.type "function")
  nf_TooMany_most : PySem.W.findIn K (.ref a.TooMany) "most" = some none
  bm_0 : ∃ ds, Vals [.ref a.df_Order__init___0] ds ∧ Binds K d.Order__init__ ["self", "size", "pairs"] ds
  bm_1 : ∃ ds, Vals [.ref a.df_Web__init___0] ds ∧ Binds K d.Web__init__ ["self", "places", "arrows"] ds
  kb_0 : KBn K d.windows ["walk", "span"] 0 ["span", "walk"] (fun us ws => [ws.getD 1 .none, ws.getD 0 .none]) (fun us ws => [ws.getD 1 .non, ws.getD 0 .non])
  exm_BadNumber_BadNumber : PySem.W.exmOne K (.ref a.BadNumber) (.ref a.BadNumber) = some true
  kit_BadNumber_BadNumber : PySem.W.kitOne K (.ref a.BadNumber) (.ref a.BadNumber) = some true
  exm_BadNumber_BadOrder : PySem.W.exmOne K (.ref a.BadNumber) (.ref a.BadOrder) = some false
  kit_BadNumber_BadOrder : PySem.W.kitOne K (.ref a.BadNumber) (.ref a.BadOrder) = some false
  exm_BadNumber_BadWalk : PySem.W.exmOne K (.ref a.BadNumber) (.ref a.BadWalk) = some false
  kit_BadNumber_BadWalk : PySem.W.kitOne K (.ref a.BadNumber) (.ref a.BadWalk) = some false
  exm_BadNumber_BadWeb : PySem.W.exmOne K (.ref a.BadNumber) (.ref a.BadWeb) = some false
  kit_BadNumber_BadWeb : PySem.W.kitOne K (.ref a.BadNumber) (.ref a.BadWeb) = some false
  exm_BadNumber_HueError : PySem.W.exmOne K (.ref a.BadNumber) (.ref a.HueError) = some true
  kit_BadNumber_HueError : PySem.W.kitOne K (.ref a.BadNumber) (.ref a.HueError) = some true
  exm_BadNumber_TooMany : PySem.W.exmOne K (.ref a.BadNumber) (.ref a.TooMany) = some false
  kit_BadNumber_TooMany : PySem.W.kitOne K (.ref a.BadNumber) (.ref a.TooMany) = some false
  exm_BadOrder_BadNumber : PySem.W.exmOne K (.ref a.BadOrder) (.ref a.BadNumber) = some false
  kit_BadOrder_BadNumber : PySem.W.kitOne K (.ref a.BadOrder) (.ref a.BadNumber) = some false
  exm_BadOrder_BadOrder : PySem.W.exmOne K (.ref a.BadOrder) (.ref a.BadOrder) = some true
  kit_BadOrder_BadOrder : PySem.W.kitOne K (.ref a.BadOrder) (.ref a.BadOrder) = some true
  exm_BadOrder_BadWalk : PySem.W.exmOne K (.ref a.BadOrder) (.ref a.BadWalk) = some false
  kit_BadOrder_BadWalk : PySem.W.kitOne K (.ref a.BadOrder) (.ref a.BadWalk) = some false
  exm_BadOrder_BadWeb : PySem.W.exmOne K (.ref a.BadOrder) (.ref a.BadWeb) = some false
  kit_BadOrder_BadWeb : PySem.W.kitOne K (.ref a.BadOrder) (.ref a.BadWeb) = some false
  exm_BadOrder_HueError : PySem.W.exmOne K (.ref a.BadOrder) (.ref a.HueError) = some true
  kit_BadOrder_HueError : PySem.W.kitOne K (.ref a.BadOrder) (.ref a.HueError) = some true
  exm_BadOrder_TooMany : PySem.W.exmOne K (.ref a.BadOrder) (.ref a.TooMany) = some false
  kit_BadOrder_TooMany : PySem.W.kitOne K (.ref a.BadOrder) (.ref a.TooMany) = some false
  exm_BadWalk_BadNumber : PySem.W.exmOne K (.ref a.BadWalk) (.ref a.BadNumber) = some false
  kit_BadWalk_BadNumber : PySem.W.kitOne K (.ref a.BadWalk) (.ref a.BadNumber) = some false
  exm_BadWalk_BadOrder : PySem.W.exmOne K (.ref a.BadWalk) (.ref a.BadOrder) = some false
  kit_BadWalk_BadOrder : PySem.W.kitOne K (.ref a.BadWalk) (.ref a.BadOrder) = some false
  exm_BadWalk_BadWalk : PySem.W.exmOne K (.ref a.BadWalk) (.ref a.BadWalk) = some true
  kit_BadWalk_BadWalk : PySem.W.kitOne K (.ref a.BadWalk) (.ref a.BadWalk) = some true
  exm_BadWalk_BadWeb : PySem.W.exmOne K (.ref a.BadWalk) (.ref a.BadWeb) = some false
  kit_BadWalk_BadWeb : PySem.W.kitOne K (.ref a.BadWalk) (.ref a.BadWeb) = some false
  exm_BadWalk_HueError : PySem.W.exmOne K (.ref a.BadWalk) (.ref a.HueError) = some true
  kit_BadWalk_HueError : PySem.W.kitOne K (.ref a.BadWalk) (.ref a.HueError) = some true
  exm_BadWalk_TooMany : PySem.W.exmOne K (.ref a.BadWalk) (.ref a.TooMany) = some false
  kit_BadWalk_TooMany : PySem.W.kitOne K (.ref a.BadWalk) (.ref a.TooMany) = some false
  exm_BadWeb_BadNumber : PySem.W.exmOne K (.ref a.BadWeb) (.ref a.BadNumber) = some false
  kit_BadWeb_BadNumber : PySem.W.kitOne K (.ref a.BadWeb) (.ref a.BadNumber) = some false
  exm_BadWeb_BadOrder : PySem.W.exmOne K (.ref a.BadWeb) (.ref a.BadOrder) = some false
  kit_BadWeb_BadOrder : PySem.W.kitOne K (.ref a.BadWeb) (.ref a.BadOrder) = some false
  exm_BadWeb_BadWalk : PySem.W.exmOne K (.ref a.BadWeb) (.ref a.BadWalk) = some false
  kit_BadWeb_BadWalk : PySem.W.kitOne K (.ref a.BadWeb) (.ref a.BadWalk) = some false
  exm_BadWeb_BadWeb : PySem.W.exmOne K (.ref a.BadWeb) (.ref a.BadWeb) = some true
  kit_BadWeb_BadWeb : PySem.W.kitOne K (.ref a.BadWeb) (.ref a.BadWeb) = some true
  exm_BadWeb_HueError : PySem.W.exmOne K (.ref a.BadWeb) (.ref a.HueError) = some true
  kit_BadWeb_HueError : PySem.W.kitOne K (.ref a.BadWeb) (.ref a.HueError) = some true
  exm_BadWeb_TooMany : PySem.W.exmOne K (.ref a.BadWeb) (.ref a.TooMany) = some false
  kit_BadWeb_TooMany : PySem.W.kitOne K (.ref a.BadWeb) (.ref a.TooMany) = some false
  exm_HueError_BadNumber : PySem.W.exmOne K (.ref a.HueError) (.ref a.BadNumber) = some false
  kit_HueError_BadNumber : PySem.W.kitOne K (.ref a.HueError) (.ref a.BadNumber) = some false
  exm_HueError_BadOrder : PySem.W.exmOne K (.ref a.HueError) (.ref a.BadOrder) = some false
  kit_HueError_BadOrder : PySem.W.kitOne K (.ref a.HueError) (.ref a.BadOrder) = some false
  exm_HueError_BadWalk : PySem.W.exmOne K (.ref a.HueError) (.ref a.BadWalk) = some false
  kit_HueError_BadWalk : PySem.W.kitOne K (.ref a.HueError) (.ref a.BadWalk) = some false
  exm_HueError_BadWeb : PySem.W.exmOne K (.ref a.HueError) (.ref a.BadWeb) = some false
  kit_HueError_BadWeb : PySem.W.kitOne K (.ref a.HueError) (.ref a.BadWeb) = some false
  exm_HueError_HueError : PySem.W.exmOne K (.ref a.HueError) (.ref a.HueError) = some true
  kit_HueError_HueError : PySem.W.kitOne K (.ref a.HueError) (.ref a.HueError) = some true
  exm_HueError_TooMany : PySem.W.exmOne K (.ref a.HueError) (.ref a.TooMany) = some false
  kit_HueError_TooMany : PySem.W.kitOne K (.ref a.HueError) (.ref a.TooMany) = some false
  exm_TooMany_BadNumber : PySem.W.exmOne K (.ref a.TooMany) (.ref a.BadNumber) = some false
  kit_TooMany_BadNumber : PySem.W.kitOne K (.ref a.TooMany) (.ref a.BadNumber) = some false
  exm_TooMany_BadOrder : PySem.W.exmOne K (.ref a.TooMany) (.ref a.BadOrder) = some false
  kit_TooMany_BadOrder : PySem.W.kitOne K (.ref a.TooMany) (.ref a.BadOrder) = some false
  exm_TooMany_BadWalk : PySem.W.exmOne K (.ref a.TooMany) (.ref a.BadWalk) = some false
  kit_TooMany_BadWalk : PySem.W.kitOne K (.ref a.TooMany) (.ref a.BadWalk) = some false
  exm_TooMany_BadWeb : PySem.W.exmOne K (.ref a.TooMany) (.ref a.BadWeb) = some false
  kit_TooMany_BadWeb : PySem.W.kitOne K (.ref a.TooMany) (.ref a.BadWeb) = some false
  exm_TooMany_HueError : PySem.W.exmOne K (.ref a.TooMany) (.ref a.HueError) = some true
  kit_TooMany_HueError : PySem.W.kitOne K (.ref a.TooMany) (.ref a.HueError) = some true
  exm_TooMany_TooMany : PySem.W.exmOne K (.ref a.TooMany) (.ref a.TooMany) = some true
  kit_TooMany_TooMany : PySem.W.kitOne K (.ref a.TooMany) (.ref a.TooMany) = some true
/-! ### one step of a reading; as many as go -/
local macro_rules | `(tactic| walk_at "sx1") => `(tactic| first
  | with_reducible refine' s_seq ?_
  | with_reducible refine' s_asg ?_
  | with_reducible refine' s_if ?_
  | with_reducible refine' s_ret ?_
  | with_reducible refine' s_drop ?_
  | with_reducible refine' s_next ?_
  | with_reducible refine' s_try ?_
  | with_reducible refine' s_raise1 ?_
  | with_reducible refine' s_raise0 ?_
  | with_reducible refine' one_of ?_
  | with_reducible refine' s_brk ?_
  | with_reducible refine' s_cont ?_
  | with_reducible refine' g_name ?_
  | with_reducible refine' g_sub ?_
  | ((with_reducible refine' e_var ?hx ?_); (case hx => exact rfl))
  | with_reducible refine' e_c ?_
  | with_reducible refine' s_for ?_
  | with_reducible refine' i_rng1 ?_
  | with_reducible refine' i_rng2 ?_
  | with_reducible refine' i_list ?_
  | with_reducible refine' i_tup ?_
  | with_reducible refine' i_enum ?_
  | with_reducible refine' i_enumT ?_
  | with_reducible refine' g_cons ?_
  | with_reducible refine' g_nil ?_
  | with_reducible refine' e_lc ?_
  | with_reducible refine' e_yes ?_
  | with_reducible refine' e_op ?_
  | with_reducible refine' e_un ?_
  | with_reducible refine' e_nil ?_
  | with_reducible refine' e_cons ?_
  | with_reducible refine' e_call ?_
  | with_reducible refine' e_callS ?_
  | with_reducible refine' e_callN ?_
  | with_reducible refine' e_CB ?_
  | with_reducible refine' s_fld ?_
  | with_reducible refine' s_dput ?_
  | with_reducible refine' e_fld ?_
  | with_reducible refine' e_make ?_
  | with_reducible refine' e_makeS ?_
  | with_reducible refine' e_prop ?_
  | with_reducible refine' e_meth ?_
  | with_reducible refine' e_tru ?_
  | with_reducible refine' e_methS ?_
  | with_reducible refine' e_revL ?_
  | with_reducible refine' e_lst ?_
  | with_reducible refine' e_tup ?_
  | with_reducible refine' e_ifE ?_
  | with_reducible refine' e_test ?_
  | with_reducible refine' e_B ?_
  | with_reducible refine' e_bl ?_
  | with_reducible refine' e_not ?_
  | with_reducible refine' e_and ?_
  | with_reducible refine' e_or ?_
  | with_reducible refine' e_andV ?_
  | with_reducible refine' e_orV ?_
  | with_reducible refine' e_notV ?_
  | with_reducible refine' e_chain ?_
  | with_reducible refine' e_BM ?_
  | with_reducible refine' e_BM0 ?_
  | with_reducible refine' e_sl ?_
  | with_reducible refine' e_nopart ?_
  | with_reducible refine' e_part ?_
  | with_reducible refine' e_int ?_
  | with_reducible refine' r_I0 ?_
  | with_reducible refine' r_addI ?_
  | with_reducible refine' r_int ?_
  | with_reducible refine' r_un ?_
  | with_reducible refine' and_rfl ?_
  | with_reducible refine' r_max ?_
  | with_reducible refine' r_min ?_
  | ((with_reducible refine' r_mulI ?hc ?_); (case hc => first | exact .inr ⟨by decide, by decide⟩ | exact .inl ⟨by decide, by decide⟩ | exact .inl ⟨by omega, by omega⟩ | exact .inr ⟨by omega, by omega⟩))
  | ((with_reducible refine' r_mod ?hc ?_); (case hc => first | decide | omega))
  | ((with_reducible refine' r_div ?hc ?_); (case hc => exact wide_div (b := 64) (by first | decide | omega) (by first | decide | omega) (by decide) (by decide)))
  | ((with_reducible refine' r_pow ?hc ?_); (case hc => exact ⟨by decide, by decide, by decide⟩))
  | ((with_reducible refine' r_eqS ?hc ?_); (case hc => rfl))
  | ((with_reducible refine' r_neS ?hc ?_); (case hc => rfl)))
local macro_rules | `(tactic| walk_at "look") => `(tactic| first
  | exact upd_same
  | assumption
  | (refine nw_new (by assumption) _ _ ?_; (walk_at "look"))
  | (refine (by assumption : Same _ _) _ _ ?_; (walk_at "look"))
  | (refine (by assumption : SB _ _ _) _ _ ?_ ?_; (focus (walk_at "nes")); (walk_at "look"))
  | (refine Eq.trans (upd_ne ?_) ?_; (focus (walk_at "nes")); (walk_at "look")))
local macro_rules | `(tactic| walk_at "nes") => `(tactic| first
  | assumption
  | exact Ne.symm (by assumption)
  | (refine' nw_ne (o := ?o) (by assumption) ?h; (case h => walk_at "look"))
  | (refine' Ne.symm (nw_ne (o := ?o) (by assumption) ?h); (case h => walk_at "look"))
  | exact ne_of (by assumption) (by assumption) (by intro z; cases z))
local macro_rules | `(tactic| walk_at "sames") => `(tactic| first
  | exact Same.refl _
  | assumption
  | (refine nw_up ?_ (by assumption); (walk_at "sames"))
  | (refine nw_free (by assumption) ?_ ?_ <;> (walk_at "sames")))
local macro_rules | `(tactic| walk_at "dv") => `(tactic| first
  | assumption
  | (refine nw_dv (by assumption) ?_; (walk_at "dv"))
  | (refine Dv.mono (by assumption : Same _ _) ?_; (walk_at "dv")))
local macro_rules | `(tactic| walk_at "sx2") => `(tactic| first
  | ((with_reducible refine' r_ixL' ?h1 ?h2 ?_); (case h1 => walk_at "look"); (case h2 => rfl))
  | ((with_reducible refine' r_ixT' ?h1 ?h2 ?_); (case h1 => walk_at "look"); (case h2 => rfl))
  | ((with_reducible refine' r_setL ?h1 ?h2 ?_); (case h1 => walk_at "look"); (case h2 => rfl))
  | ((with_reducible refine' r_lenL ?h1 ?_); (case h1 => walk_at "look"))
  | ((with_reducible refine' r_lenT ?h1 ?_); (case h1 => walk_at "look"))
  | ((with_reducible refine' r_sfld ?h1 ?h2 ?h3 ?h4 ?_); (case h1 => walk_at "look"); (case h2 => assumption); (case h3 => assumption); (case h4 => exact Nat.le_of_ble_eq_true rfl))
  | ((with_reducible refine' r_fld ?h1 ?h2 ?h3 ?h4 ?_); (case h1 => walk_at "look"); (case h2 => assumption); (case h3 => assumption); (case h4 => rfl))
  | ((with_reducible refine' r_revL ?h1 ?_); (case h1 => walk_at "look"))
  | ((with_reducible refine' r_lenD ?h1 ?_); (case h1 => walk_at "look"))
  | ((with_reducible refine' r_sortedD0 ?h1 ?_); (case h1 => walk_at "look"))
  | ((with_reducible refine' and_tyL ?h1 ?_); (case h1 => walk_at "look"))
  | ((with_reducible refine' r_append ?h1 ?h2 ?_); (case h1 => walk_at "look"); (case h2 => omega))
  | ((with_reducible refine' i_rng1' ?hc ?_); (case hc => exact ⟨by omega, by omega⟩))
  | ((with_reducible refine' i_rng2' ?hc ?_); (case hc => exact ⟨by omega, by omega, by omega, by omega⟩))
  | ((with_reducible refine' i_list' ?hc ?_); (case hc => exact SqL.of (by walk_at "look")))
  | ((with_reducible refine' g_tup ?h1 ?h2 ?_); (case h1 => walk_at "look"); (case h2 => rfl))
  | ((with_reducible refine' e_xf ?h1 ?h2 ?h3 ?_); (case h1 => exact rfl); (case h2 => walk_at "look"); (case h3 => first | rfl | simp [List.lookup]))
  | ((with_reducible refine' and_eqw ?h ?_); (case h => rfl))
  | ((with_reducible refine' i_tup' ?hc ?_); (case hc => exact SqT.of (by walk_at "look")))
  | ((with_reducible refine' r_isiD ?h1 ?h2 ?_); (case h1 => walk_at "dv"); (case h2 => first | rfl | decide +kernel))
  | ((with_reducible refine' r_isi2D ?h0 ?h1 ?h2 ?_); (case h0 => walk_at "look"); (case h1 => walk_at "dv"); (case h2 => first | rfl | decide +kernel))
  | ((with_reducible refine' if_dt ?hc ?_); (case hc => omega))
  | ((with_reducible refine' if_df ?hc ?_); (case hc => omega))
  | (with_reducible refine' all_new (fun _ _ => ?_))
  | (with_reducible refine' nw_intro (fun _ _ => ?_))
  | ((with_reducible refine' e_dnewK (fun _ _ => ?_)))
  | ((with_reducible refine' e_dnewT ?_))
  | ((with_reducible refine' r_lenT' ?h1 ?_); (case h1 => walk_at "look"))
  | ((with_reducible refine' e_disp1 (fun _ _ => ?_) ?m1 ?m2); (case m1 => exact mono_c); (case m2 => first | exact mono_c | exact mono_l1))
  | ((with_reducible refine' e_keyS ?_))
  | ((with_reducible refine' e_keyI ?_))
  | ((with_reducible refine' and_look ?hc ?_); (case hc => walk_at "look"))
  | ((with_reducible refine' if_t ?hc ?_); (case hc => rfl))
  | ((with_reducible refine' if_f ?hc ?_); (case hc => rfl))
  | ((with_reducible refine' e_disp ?hc ?_); (case hc => exact len_ok rfl)))
local macro_rules | `(tactic| walk_at "sx") => `(tactic| repeat' (first | walk_at "sx1" | walk_at "sx2"))
local macro_rules | `(tactic| walk_at "sx_old") => `(tactic| repeat' (walk_at "sx1"))
section
variable {P : Program} {w : World} {K : PySem.W.Frag} {mg : Str → Option Value} {base : Heap} {a : Ad} {d : Fd}
/-! ### is_whole -/
def sp_is_whole : Sp := fun vs H Q _ => ∃ (v : V) (d : D), vs = [v] ∧ Dv H v d ∧ Q (.bl d.isInt) H
theorem ok_is_whole (T : Txt K mg a d) : FnOk P w K mg base CX0 1 a.is_whole d.is_whole ["value"] sp_is_whole := by
  refine T.F_is_whole.ok sc_is_whole (fun vs H Q E h => ?_) (fun cdv A outer s H vs Q E hr h => ⟨_, (pss_one (ps_ret (pe_and (pe_callB (k_isi K) (by rfl) T.m_isinstance bt_isinstance (pa_cons (pv 0) (pa_cons (pe_bltn (v := .ty "int") rfl T.m_int bt_int rfl) pa_nil))) (pe_one (pe_not (pe_callB (k_isi K) (by rfl) T.m_isinstance bt_isinstance (pa_cons (pv 0) (pa_cons (pe_bltn (v := .ty "bool") rfl T.m_bool bt_bool rfl) pa_nil)))))))), ?_⟩)
  · obtain ⟨v, d, rfl, _⟩ := h
    rfl
  · obtain ⟨v, d, rfl, hd, k⟩ := h
    cases d <;> walk_at "sx" <;> exact k

/-! ### is_sequence -/
/-- a list or a tuple; b tells whether v is one -/
def SeqIs (K : PySem.W.Frag) (H : Hp) (v : V) (b : Bool) : Prop := ∃ t, TyX K H v t ∧ PySem.W.kitAny K t [.type "list", .type "tuple"] = some b
theorem seqIs_D {H : Hp} {v : V} {d : D} (h : Dv H v d) : SeqIs K H v d.isSeq := ⟨_, Dv.tyx h, kit_ty2 (kit_seq d)⟩
def sp_is_sequence (K : PySem.W.Frag) : Sp := fun vs H Q _ => ∃ (v : V) (b : Bool), vs = [v] ∧ (∀ H', Same H H' → SeqIs K H' v b) ∧ ∀ H', Same H H' → Q (.bl b) H'
theorem ok_is_sequence (T : Txt K mg a d) : FnOk P w K mg base CX0 1 a.is_sequence d.is_sequence ["value"] (sp_is_sequence K) := by
  refine T.F_is_sequence.ok sc_is_sequence (fun vs H Q E h => ?_) (fun cdv A outer s H vs Q E hr h => ⟨_, (pss_one (ps_ret (pe_callB (k_isi K) (by rfl) T.m_isinstance bt_isinstance (pa_cons (pv 0) (pa_cons (pe_tup (pa_cons (pe_bltn (v := .ty "list") rfl T.m_list bt_list rfl) (pa_cons (pe_bltn (v := .ty "tuple") rfl T.m_tuple bt_tuple rfl) pa_nil))) pa_nil))))), ?_⟩)
  · obtain ⟨v, b, rfl, _⟩ := h
    rfl
  · obtain ⟨v, b, rfl, hd, k⟩ := h
    walk_at "sx"
    rename_i p hp
    obtain ⟨t, h1, h2⟩ := hd _ (nw_new hp)
    exact r_isi2X upd_same h1 h2 (k _ (nw_new hp))

/-! ### is_between -/
def sp_is_between : Sp := fun vs H Q _ => ∃ (lo hi : Int) (v : V) (d : D), vs = [.int lo, .int hi, v] ∧ Dv H v d ∧ Q (.bl (d.inR lo hi)) H
theorem ok_is_between (T : Txt K mg a d) : FnOk P w K mg base CX0 2 a.is_between d.is_between ["low", "high", "value"] sp_is_between := by
  refine T.F_is_between.ok sc_is_between (fun vs H Q E h => ?_) (fun cdv A outer s H vs Q E hr h => ⟨_, (pss_one (ps_ret (pe_and (pe_call (ok_is_whole T) (hr.mono (by omega)) rfl T.g_is_whole T.F_is_whole.kp T.b_is_whole .nil pass0 (pa_cons (pv 2) pa_nil)) (pe_one (pe_chain op_le op_le (pv 0) (pv 2) (pv 1)))))), ?_⟩)
  · obtain ⟨lo, hi, v, d, rfl, _⟩ := h
    rfl
  · obtain ⟨lo, hi, v, d, rfl, hd, k⟩ := h
    walk_at "sx"
    refine ⟨v, d, rfl, hd, ?_⟩
    cases d with
    | int i =>
      obtain rfl : v = .int i := id hd
      walk_at "sx"
      refine if_d (fun h1 => ?_) (fun h1 => ?_)
      · walk_at "sx"
        have e : (D.int i).inR lo hi = decide (i ≤ hi) := by show (decide (lo ≤ i) && decide (i ≤ hi)) = _; rw [decide_eq_true h1, Bool.true_and]
        rw [← e]
        exact k
      · walk_at "sx"
        have e : (D.int i).inR lo hi = false := by show (decide (lo ≤ i) && decide (i ≤ hi)) = _; rw [decide_eq_false h1, Bool.false_and]
        rw [← e]
        exact k
    | _ =>
      walk_at "sx"
      exact k

/-! ### BadWeb.__init__ -/
theorem ok_BadWeb__init__ (T : Txt K mg a d) : FnOk P w K mg base CX0 1 a.BadWeb__init__ d.BadWeb__init__ ["self", "bad_at"] (spInit1 K a.BadWeb "bad_at") := by
  refine T.F_BadWeb__init__.ok sc_BadWeb__init__ (fun vs H Q E h => ?_) (fun cdv A outer s H vs Q E hr h => ⟨_, (pss_one (ps_ost (pv 0) (pv 1))), ?_⟩)
  · obtain ⟨p, v, rfl, _⟩ := h
    rfl
  · obtain ⟨p, v, rfl, hp, k⟩ := h
    exact ⟨_, rfl, _, rfl, p, _, rfl, T.o_BadWeb, T.nf_BadWeb_bad_at, .inl ⟨hp, fun dx h1 h2 => k dx h1 h2⟩⟩

/-! ### BadOrder.__init__ -/
theorem ok_BadOrder__init__ (T : Txt K mg a d) : FnOk P w K mg base CX0 1 a.BadOrder__init__ d.BadOrder__init__ ["self", "bad_at"] (spInit1 K a.BadOrder "bad_at") := by
  refine T.F_BadOrder__init__.ok sc_BadOrder__init__ (fun vs H Q E h => ?_) (fun cdv A outer s H vs Q E hr h => ⟨_, (pss_one (ps_ost (pv 0) (pv 1))), ?_⟩)
  · obtain ⟨p, v, rfl, _⟩ := h
    rfl
  · obtain ⟨p, v, rfl, hp, k⟩ := h
    exact ⟨_, rfl, _, rfl, p, _, rfl, T.o_BadOrder, T.nf_BadOrder_bad_at, .inl ⟨hp, fun dx h1 h2 => k dx h1 h2⟩⟩

/-! ### BadWalk.__init__ -/
theorem ok_BadWalk__init__ (T : Txt K mg a d) : FnOk P w K mg base CX0 1 a.BadWalk__init__ d.BadWalk__init__ ["self", "bad_at"] (spInit1 K a.BadWalk "bad_at") := by
  refine T.F_BadWalk__init__.ok sc_BadWalk__init__ (fun vs H Q E h => ?_) (fun cdv A outer s H vs Q E hr h => ⟨_, (pss_one (ps_ost (pv 0) (pv 1))), ?_⟩)
  · obtain ⟨p, v, rfl, _⟩ := h
    rfl
  · obtain ⟨p, v, rfl, hp, k⟩ := h
    exact ⟨_, rfl, _, rfl, p, _, rfl, T.o_BadWalk, T.nf_BadWalk_bad_at, .inl ⟨hp, fun dx h1 h2 => k dx h1 h2⟩⟩

/-! ### TooMany.__init__ -/
theorem ok_TooMany__init__ (T : Txt K mg a d) : FnOk P w K mg base CX0 1 a.TooMany__init__ d.TooMany__init__ ["self", "most"] (spInit1 K a.TooMany "most") := by
  refine T.F_TooMany__init__.ok sc_TooMany__init__ (fun vs H Q E h => ?_) (fun cdv A outer s H vs Q E hr h => ⟨_, (pss_one (ps_ost (pv 0) (pv 1))), ?_⟩)
  · obtain ⟨p, v, rfl, _⟩ := h
    rfl
  · obtain ⟨p, v, rfl, hp, k⟩ := h
    exact ⟨_, rfl, _, rfl, p, _, rfl, T.o_TooMany, T.nf_TooMany_most, .inl ⟨hp, fun dx h1 h2 => k dx h1 h2⟩⟩

/-! ### check_number -/
--@raises
def sp_check_number (a : Ad) : Sp := fun vs H Q E => ∃ (lo hi : Int) (v : V) (d : D), vs = [.int lo, .int hi, v] ∧ Dv H v d ∧ (d.inR lo hi = true → Q .non H) ∧ (d.inR lo hi = false → E (.ref a.BadNumber) none H)
theorem ok_check_number (T : Txt K mg a d) : FnOk P w K mg base (L2.CX P w) 3 a.check_number d.check_number ["low", "high", "value"] (sp_check_number a) := by
  refine T.F_check_number.okX sc_check_number (fun vs H Q E h => ?_) (fun cdv A outer s H vs Q E hr h => ⟨_, (pss_one (ps_if (pt_not (pt_val (pe_call (ok_is_between T) (hr.mono (by omega)) rfl T.g_is_between T.F_is_between.kp T.b_is_between .nil pass0 (pa_cons (pv 0) (pa_cons (pv 1) (pa_cons (pv 2) pa_nil)))))) (pss_one (ps_raise0 rfl (takes_of rfl rfl rfl rfl) T.n_BadNumber T.g_BadNumber T.k_BadNumber T.e_BadNumber.exC T.ty_BadNumber)) pss_nil)), ?_⟩)
  · obtain ⟨lo, hi, v, d, rfl, _⟩ := h
    rfl
  · obtain ⟨lo, hi, v, d, rfl, hd, k1, k2⟩ := h
    walk_at "sx"
    refine ⟨lo, hi, v, d, rfl, hd, ?_⟩
    walk_at "sx"
    cases e : d.inR lo hi with
    | true =>
      walk_at "sx"
      exact k1 e
    | false =>
      walk_at "sx"
      exact k2 e

/-! ### _is_place_pair -/
/-- never reached by this law -/
theorem ok_is_place_pair (T : Txt K mg a d) : FnOk P w K mg base CX0 1 a.is_place_pair d.is_place_pair ["places", "value"] (fun _ _ _ _ => False) :=
  T.F_is_place_pair.ok sc_is_place_pair (fun vs H Q E h => h.elim) (fun cdv A outer s H vs Q E hr h => h.elim)

/-! ### Web.__init__ -/
--@raises
--@hint len(known) => =(pe_callB call_lenD' (by rfl) T.m_len bt_len (pa_cons $known pa_nil))
--@hint sorted(known) => =(pe_callB (call_sortedD' rfl) (by rfl) T.m_sorted bt_sorted (pa_cons $known pa_nil))
--@used m sorted
--@used m len
--@used k Web
/-- a web without arrows -/
def sp_Web_init (a : Ad) : Sp := fun vs H Q _ => ∃ (x dx : Addr) (n : Int), vs = [.ref x, .int n, .ref a.df_Web__init___0] ∧ 0 ≤ n ∧ n ≤ 2000 ∧ H x = some (.ins a.Web dx []) ∧
  ∀ H', SB x H H' → (∃ fs, H' x = some (.ins a.Web dx fs)) → Q .non H'
theorem ok_Web__init__ (T : Txt K mg a d) : FnOk P w K mg base (L2.CX P w) 4 a.Web__init__ d.Web__init__ ["self", "places", "arrows"] (sp_Web_init a) := by
  refine T.F_Web__init__.ok sc_Web__init__ (fun vs H Q E h => ?_) (fun cdv A outer s H vs Q E hr h => ⟨_, (pss_cons (ps_expr (pe_call (ok_check_number T) (hr.mono (by omega)) rfl T.g_check_number T.F_check_number.kp T.b_check_number .nil (passes_call (takes_of rfl rfl rfl rfl) (fun _ _ _ _ z => z)) (pa_cons pe_int (pa_cons (pe_glob (v := .int 2000) rfl T.c_MOST_PLACES.choose_spec ⟨_, rfl⟩) (pa_cons (pv 1) pa_nil)))))
      (pss_cons (ps_if (pt_not (pt_val (pe_call (ok_is_sequence T) (hr.mono (by omega)) rfl T.g_is_sequence T.F_is_sequence.kp T.b_is_sequence .nil pass0 (pa_cons (pv 2) pa_nil)))) (pss_one (ps_raise1 (f := "bad_at") rfl (takes_of rfl rfl rfl rfl) T.o_BadWeb T.i_BadWeb T.ti_BadWeb (ok_BadWeb__init__ T) (hr.mono (by omega)) T.b_BadWeb__init__ T.g_BadWeb (pa_cons pe_non pa_nil) mono_cc)) pss_nil)
      (pss_cons (ps_set (i := 3) sc_Web__init__.nd rfl (by first | exact Or.inl rfl | exact Or.inr rfl) pe_dnewK)
      (pss_cons (ps_for (passes_of rfl) rfl (pi_or (kp_enum K rfl T.m_enumerate (pa_cons (pv 2) pa_nil)) (kp_enumT K rfl T.m_enumerate (pa_cons (pv 2) pa_nil))) (kg_tup K rfl (pgs_cons (pg_name (i := 4) sc_Web__init__.nd rfl (by first | exact Or.inl rfl | exact Or.inr rfl)) (pgs_cons (pg_name (i := 5) sc_Web__init__.nd rfl (by first | exact Or.inl rfl | exact Or.inr rfl)) pgs_nil))) (pss_cons (ps_if (pt_not (pt_val (pe_call (ok_is_place_pair T) (hr.mono (by omega)) rfl T.g_is_place_pair T.F_is_place_pair.kp T.b_is_place_pair .nil pass0 (pa_cons (pv 1) (pa_cons (pv 5) pa_nil))))) (pss_one (ps_raise1 (f := "bad_at") rfl (takes_of rfl rfl rfl rfl) T.o_BadWeb T.i_BadWeb T.ti_BadWeb (ok_BadWeb__init__ T) (hr.mono (by omega)) T.b_BadWeb__init__ T.g_BadWeb (pa_cons (pv 4) pa_nil) mono_cv)) pss_nil)
      (pss_one (ps_asg pe_bl (pg_sub (pv 3) (pe_tup (pa_cons (pe_ix (k_ix K) (pv 5) pe_int (fun _ _ => rfl)) (pa_cons (pe_ix (k_ix K) (pv 5) pe_int (fun _ _ => rfl)) pa_nil))) set_list)))))
      (pss_cons (ps_if (pt_cmpR op_gt (pe_callB call_lenD' (by rfl) T.m_len bt_len (pa_cons (pv 3) pa_nil)) (pe_glob (v := .int 2000) rfl T.c_MOST_ARROWS.choose_spec ⟨_, rfl⟩) (nomark _)) (pss_one (ps_raise1 (f := "most") rfl (takes_of rfl rfl rfl rfl) T.o_TooMany T.i_TooMany T.ti_TooMany (ok_TooMany__init__ T) (hr.mono (by omega)) T.b_TooMany__init__ T.g_TooMany (pa_cons (pe_glob (v := .int 2000) rfl T.c_MOST_ARROWS.choose_spec ⟨_, rfl⟩) pa_nil) mono_cc)) pss_nil)
      (pss_cons (ps_fld (pv 0) (pv 3) rfl)
      (pss_cons (ps_fld (pv 0) (pe_callB (call_sortedD' rfl) (by rfl) T.m_sorted bt_sorted (pa_cons (pv 3) pa_nil)) rfl)
      (pss_cons (ps_fld (pv 0) (pe_lc (own := [("_", 8)]) (g := gName 8) (tt := tYes) rfl sc_Web__init__.nd (pi_range1 rfl T.m_range (pa_cons (pv 1) pa_nil)) (blkOk_by (N := ["self", "places", "arrows", "known", "i", "arrow", "u", "v", "_"]) (sc := defScope s_Web__init__) (by decide +kernel)) (fun _ _ _ _ _ => (pg_name (i := 8) sc_Web__init__.nd rfl (by first | exact Or.inl rfl | exact Or.inr rfl))) (fun _ _ _ _ _ => pts_nil) (fun _ _ _ _ _ => (pe_lst pa_nil))) rfl)
      (pss_cons (ps_fld (pv 0) (pe_lc (own := [("_", 8)]) (g := gName 8) (tt := tYes) rfl sc_Web__init__.nd (pi_range1 rfl T.m_range (pa_cons (pv 1) pa_nil)) (blkOk_by (N := ["self", "places", "arrows", "known", "i", "arrow", "u", "v", "_"]) (sc := defScope s_Web__init__) (by decide +kernel)) (fun _ _ _ _ _ => (pg_name (i := 8) sc_Web__init__.nd rfl (by first | exact Or.inl rfl | exact Or.inr rfl))) (fun _ _ _ _ _ => pts_nil) (fun _ _ _ _ _ => (pe_lst pa_nil))) rfl)
      (pss_one (ps_for (passes_of rfl) rfl (pi_or (kp_list K (kp_fld K (pv 0) rfl)) (kp_tup K (kp_fld K (pv 0) rfl))) (kg_tup K rfl (pgs_cons (pg_name (i := 6) sc_Web__init__.nd rfl (by first | exact Or.inl rfl | exact Or.inr rfl)) (pgs_cons (pg_name (i := 7) sc_Web__init__.nd rfl (by first | exact Or.inl rfl | exact Or.inr rfl)) pgs_nil))) (pss_cons (ps_expr (pe_bm PySem.F.plainAttrs_list PySem.F.slot_list_append PySem.F.type_list_append mt_append (pe_ix (k_ix K) (kp_fld K (pv 0) rfl) (pv 6) (fun _ _ => rfl)) (pa_cons (pv 7) pa_nil)))
      (pss_one (ps_expr (pe_bm PySem.F.plainAttrs_list PySem.F.slot_list_append PySem.F.type_list_append mt_append (pe_ix (k_ix K) (kp_fld K (pv 0) rfl) (pv 7) (fun _ _ => rfl)) (pa_cons (pv 6) pa_nil)))))))))))))))), ?_⟩)
  · obtain ⟨x, dx, n, rfl, _⟩ := h
    rfl
  · obtain ⟨x, dx, n, rfl, n0, n1, hx, k⟩ := h
    have cW := T.is_Web.cl
    have q1 := T.na_Web__known
    have q2 := T.na_Web__arrows
    have q3 := T.na_Web__outs
    have q4 := T.na_Web__ins
    have em := T.em_Web__init___0
    walk_at "sx"
    refine ⟨_, _, _, .int n, rfl, rfl, fun _ => ?_, fun e => ?_⟩
    · walk_at "sx"
      refine ⟨_, true, rfl, fun H1 _ => ⟨_, em.ty H1, kit_ty2 (kit_seq (.tup []))⟩, fun H1 s1 => ?_⟩
      have hx1 := s1 _ _ hx
      walk_at "sx"
      rename_i dk hdk
      refine .inr (i_enumT (e_cons (e_var rfl (e_nil (i_enumT' (em.sq _) (f_enumT (xs := []) (fun i σ' H' => σ' = [some (.ref x), some (.int n), some (.ref a.df_Web__init___0), some (.ref dk), none, none, none, none, none] ∧ H' = upd H1 dk (.dK [])) ⟨rfl, rfl⟩ (fun _ _ _ _ _ => em.sq _) (fun i y T' σ' H' hy => by cases hy) ?_))))))
      rintro σ' H' ⟨rfl, rfl⟩
      have zl : sizeLine = 16777216 := sizeLine_eq
      walk_at "sx"
      rename_i pA hpA L hL
      have npx : pA ≠ x := (nw_ne hpA upd_same).symm
      generalize hG : upd (upd _ pA _) x _ = G at hL ⊢
      have sb1 : SB x H1 G := by rw [← hG]; exact ((SB.of (nw_new hdk)).upd.trans (SB.of (nw_new hpA))).upd
      have gx : G x = some (.ins a.Web dx (putF "_arrows" (.ref pA) (putF "_known" (.ref dk) []))) := by rw [← hG]; exact upd_same
      have ga : G pA = some (.lst []) := by rw [← hG]; exact (upd_ne npx).trans upd_same
      clear hG
      refine c_range (fun i H' => Same G H' ∧ ∃ acc : List V, H' L = some (.lst acc) ∧ acc.length = i) ⟨nw_new hL, [], upd_same, rfl⟩ ?_ ?_
      · rintro i H' hi ⟨s2, acc, h1, h2⟩
        walk_at "sx"
        rename_i b hb
        exact ⟨acc, nw_new hb _ _ h1, by omega, same_mut (s2.trans (nw_new hb)) hL, acc ++ [.ref b], upd_same, by rw [List.length_append, h2]; rfl⟩
      rintro H2 ⟨s2, acc, h1, h2⟩
      have gx2 := s2 _ _ gx
      have ga2 := s2 _ _ ga
      walk_at "sx"
      rename_i M2 hM2
      generalize hG : upd H2 x _ = G2 at hM2 ⊢
      have sb2 : SB x H2 G2 := by rw [← hG]; exact SB.refl.upd
      have gx2 : G2 x = some (.ins a.Web dx (putF "_outs" (.ref L) (putF "_arrows" (.ref pA) (putF "_known" (.ref dk) [])))) := by rw [← hG]; exact upd_same
      have ga2 : G2 pA = some (.lst []) := sb2 _ _ npx ga2
      clear hG
      refine c_range (fun i H' => Same G2 H' ∧ ∃ acc : List V, H' M2 = some (.lst acc) ∧ acc.length = i) ⟨nw_new hM2, [], upd_same, rfl⟩ ?_ ?_
      · rintro i H' hi ⟨s2, acc, h1, h2⟩
        walk_at "sx"
        rename_i b hb
        exact ⟨acc, nw_new hb _ _ h1, by omega, same_mut (s2.trans (nw_new hb)) hM2, acc ++ [.ref b], upd_same, by rw [List.length_append, h2]; rfl⟩
      rintro H3 ⟨s3, acc3, _, _⟩
      have gx3 := s3 _ _ gx2
      have ga3 := s3 _ _ ga2
      walk_at "sx"
      generalize hG : upd H3 x _ = G3
      have sb3 : SB x H3 G3 := by rw [← hG]; exact SB.refl.upd
      have gx4 : G3 x = some (.ins a.Web dx (putF "_ins" (.ref M2) (putF "_outs" (.ref L) (putF "_arrows" (.ref pA) (putF "_known" (.ref dk) []))))) := by rw [← hG]; exact upd_same
      have ga4 : G3 pA = some (.lst []) := sb3 _ _ npx ga3
      clear hG
      refine Or.inl (i_list ?_)
      walk_at "sx"
      refine f_list (xs := []) (fun i σ' H' => H' = G3) rfl (fun _ _ _ _ h => SqL.of (by rw [h]; exact ga4)) (fun i y σ' H' hy => by cases hy) ?_
      rintro σ' H' rfl
      exact k _ ((((((SB.of s1).trans sb1).trans (SB.of s2)).trans sb2).trans (SB.of s3)).trans sb3) ⟨_, gx4⟩
    · have z : (D.int n).inR 0 2000 = true := by
        show (decide ((0 : Int) ≤ n) && decide (n ≤ 2000)) = true
        rw [decide_eq_true (by omega), decide_eq_true (by omega)]
        rfl
      exact absurd (z.symm.trans e) (by decide)

/-! ### _is_rising_pair -/
/-- never reached by this law -/
theorem ok_is_rising_pair (T : Txt K mg a d) : FnOk P w K mg base CX0 1 a.is_rising_pair d.is_rising_pair ["size", "value"] (fun _ _ _ _ => False) :=
  T.F_is_rising_pair.ok sc_is_rising_pair (fun vs H Q E h => h.elim) (fun cdv A outer s H vs Q E hr h => h.elim)

/-! ### _reach_of -/
def sp_reach_of (K : PySem.W.Frag) : Sp := fun vs H Q _ => ∃ (n : Int) (e : Addr), vs = [.int n, .ref e] ∧ Emp K e ∧ 0 ≤ n ∧ n ≤ 200 ∧ ∀ p H', Same H H' → Q (.ref p) H'
theorem ok_reach_of (T : Txt K mg a d) : FnOk P w K mg base CX0 1 a.reach_of d.reach_of ["size", "pairs"] (sp_reach_of K) := by
  refine T.F_reach_of.ok sc_reach_of (fun vs H Q E h => ?_) (fun cdv A outer s H vs Q E hr h => ⟨_, (pss_cons (ps_setLc (i := 2) (own := [("a", 3)]) (g := gName 3) (tt := tYes) rfl sc_reach_of.nd rfl rfl (sw_true rfl rfl rfl (by decide +kernel)) (pi_range1 rfl T.m_range (pa_cons (pv 0) pa_nil)) (blkOk_by (N := ["size", "pairs", "reach", "a", "b", "pair"]) (sc := defScope s_reach_of) (by decide +kernel)) (fun _ _ _ _ _ => (pg_name (i := 3) sc_reach_of.nd rfl (by first | exact Or.inl rfl | exact Or.inr rfl))) (fun _ _ _ _ _ => pts_nil) (fun _ _ _ _ _ => (pe_op op_shl1 pe_int (pv 3))))
      (pss_cons (ps_for PassesOwn.never rfl (kp_list K (pe_callBK (k_sortR K) (by rfl) T.m_sorted bt_sorted (pa_cons (pe_lc (own := [("pair", 5)]) (g := gName 5) (tt := tYes) rfl sc_reach_of.nd (pi_or (kp_list K (pv 1)) (kp_tup K (pv 1))) (blkOk_by (N := ["size", "pairs", "reach", "a", "b", "pair"]) (sc := defScope s_reach_of) (by decide +kernel)) (fun _ _ _ _ _ => (pg_name (i := 5) sc_reach_of.nd rfl (by first | exact Or.inl rfl | exact Or.inr rfl))) (fun _ _ _ _ _ => pts_nil) (fun _ _ _ _ _ => (pe_tup (pa_cons (pe_ix (k_ix K) (pv 5) pe_int (fun _ _ => rfl)) (pa_cons (pe_ix (k_ix K) (pv 5) pe_int (fun _ _ => rfl)) pa_nil))))) pa_nil) (pk_cons pe_bl pk_nil))) (kg_tup K rfl (pgs_cons (pg_name (i := 3) sc_reach_of.nd rfl (by first | exact Or.inl rfl | exact Or.inr rfl)) (pgs_cons (pg_name (i := 4) sc_reach_of.nd rfl (by first | exact Or.inl rfl | exact Or.inr rfl)) pgs_nil))) (pss_one (ps_asg (pe_op op_or1 (pe_ix (k_ix K) (pv 2) (pv 3) (fun _ _ => rfl)) (pe_ix (k_ix K) (pv 2) (pv 4) (fun _ _ => rfl))) (pg_sub (pv 2) (pv 3) set_list))))
      (pss_one (ps_ret (pv 2))))), ?_⟩)
  · obtain ⟨n, e, rfl, _⟩ := h
    rfl
  · obtain ⟨n, e, rfl, em, n0, n1, k⟩ := h
    have zl : sizeLine = 16777216 := sizeLine_eq
    walk_at "sx"
    rename_i L hL
    refine c_range (fun i H' => Same H H' ∧ ∃ acc : List V, H' L = some (.lst acc) ∧ acc.length = i) ⟨nw_new hL, [], upd_same, rfl⟩ ?_ ?_
    · rintro i H' hi ⟨s2, acc, h1, h2⟩
      walk_at "sx"
      refine ⟨1, i, rfl, congrArg V.int (Int.zero_add _), shl_ok (n := 1) (by decide) (by omega), ?_⟩
      exact ⟨acc, h1, by omega, same_mut s2 hL, acc ++ [_], upd_same, by rw [List.length_append, h2]; rfl⟩
    · rintro H2 ⟨s2, acc, h1, h2⟩
      walk_at "sx"
      refine e_CKw ?_
      walk_at "sx"
      refine .inr (i_tup (e_var rfl (i_tup' (em.sq _) (fun D hD => lc_tup (fun i H' => H' = upd H2 D (.lst [])) rfl (fun i H' _ _ => em.sq _) (fun i x H' hx => by cases hx) ?_))))
      rintro H3 rfl
      walk_at "sx"
      refine ⟨D, [], fun _ => (0, 0), rfl, rfl, SqL.of upd_same, ⟨fun x hx => absurd hx (List.not_mem_nil), fun ys q _ hp hq => ?_⟩⟩
      obtain rfl := List.Perm.eq_nil hp
      have s3 : Same H (upd (upd H2 D (.lst [])) q (.lst [])) := (s2.trans (nw_new hD)).trans (nw_new hq)
      rw [List.reverse_nil]
      generalize hG : upd (upd H2 D (.lst [])) q (.lst []) = G at s3 ⊢
      have gq : G q = some (.lst []) := by rw [← hG]; exact upd_same
      walk_at "sx"
      refine f_list (xs := []) (fun i σ' H' => H' = G ∧ ∃ x y z, σ' = [some (.int n), some (.ref e), some (.ref L), x, y, z]) ⟨rfl, _, _, _, rfl⟩ (fun i σ' H' _ h => SqL.of (by rw [h.1]; exact gq)) (fun i x σ' H' hx => by cases hx) ?_
      rintro σ' H' ⟨rfl, x, y, z, rfl⟩
      walk_at "sx"
      exact k _ _ s3

/-! ### Order.__init__ -/
--@raises
--@used k Order
/-- an order without pairs -/
def sp_Order_init (a : Ad) : Sp := fun vs H Q _ => ∃ (x dx : Addr) (n : Int), vs = [.ref x, .int n, .ref a.df_Order__init___0] ∧ 0 ≤ n ∧ n ≤ 200 ∧ H x = some (.ins a.Order dx []) ∧
  ∀ H', SB x H H' → (∃ fs, H' x = some (.ins a.Order dx fs)) → Q .non H'
theorem ok_Order__init__ (T : Txt K mg a d) : FnOk P w K mg base (L2.CX P w) 4 a.Order__init__ d.Order__init__ ["self", "size", "pairs"] (sp_Order_init a) := by
  refine T.F_Order__init__.ok sc_Order__init__ (fun vs H Q E h => ?_) (fun cdv A outer s H vs Q E hr h => ⟨_, (pss_cons (ps_expr (pe_call (ok_check_number T) (hr.mono (by omega)) rfl T.g_check_number T.F_check_number.kp T.b_check_number .nil (passes_call (takes_of rfl rfl rfl rfl) (fun _ _ _ _ z => z)) (pa_cons pe_int (pa_cons (pe_glob (v := .int 200) rfl T.c_MOST_THINGS.choose_spec ⟨_, rfl⟩) (pa_cons (pv 1) pa_nil)))))
      (pss_cons (ps_if (pt_not (pt_val (pe_call (ok_is_sequence T) (hr.mono (by omega)) rfl T.g_is_sequence T.F_is_sequence.kp T.b_is_sequence .nil pass0 (pa_cons (pv 2) pa_nil)))) (pss_one (ps_raise1 (f := "bad_at") rfl (takes_of rfl rfl rfl rfl) T.o_BadOrder T.i_BadOrder T.ti_BadOrder (ok_BadOrder__init__ T) (hr.mono (by omega)) T.b_BadOrder__init__ T.g_BadOrder (pa_cons pe_non pa_nil) mono_cc)) pss_nil)
      (pss_cons (ps_for (passes_of rfl) rfl (pi_or (kp_enum K rfl T.m_enumerate (pa_cons (pv 2) pa_nil)) (kp_enumT K rfl T.m_enumerate (pa_cons (pv 2) pa_nil))) (kg_tup K rfl (pgs_cons (pg_name (i := 3) sc_Order__init__.nd rfl (by first | exact Or.inl rfl | exact Or.inr rfl)) (pgs_cons (pg_name (i := 4) sc_Order__init__.nd rfl (by first | exact Or.inl rfl | exact Or.inr rfl)) pgs_nil))) (pss_one (ps_if (pt_not (pt_val (pe_call (ok_is_rising_pair T) (hr.mono (by omega)) rfl T.g_is_rising_pair T.F_is_rising_pair.kp T.b_is_rising_pair .nil pass0 (pa_cons (pv 1) (pa_cons (pv 4) pa_nil))))) (pss_one (ps_raise1 (f := "bad_at") rfl (takes_of rfl rfl rfl rfl) T.o_BadOrder T.i_BadOrder T.ti_BadOrder (ok_BadOrder__init__ T) (hr.mono (by omega)) T.b_BadOrder__init__ T.g_BadOrder (pa_cons (pv 3) pa_nil) mono_cv)) pss_nil)))
      (pss_one (ps_fld (pv 0) (pe_call (ok_reach_of T) (hr.mono (by omega)) rfl T.g_reach_of T.F_reach_of.kp T.b_reach_of .nil pass0 (pa_cons (pv 1) (pa_cons (pv 2) pa_nil))) rfl))))), ?_⟩)
  · obtain ⟨x, dx, n, rfl, _⟩ := h
    rfl
  · obtain ⟨x, dx, n, rfl, n0, n1, hx, k⟩ := h
    have cW := T.is_Order.cl
    have q1 := T.na_Order__reach
    have em := T.em_Order__init___0
    walk_at "sx"
    refine ⟨_, _, _, .int n, rfl, rfl, fun _ => ?_, fun e => ?_⟩
    · walk_at "sx"
      refine ⟨_, true, rfl, fun H1 _ => ⟨_, em.ty H1, kit_ty2 (kit_seq (.tup []))⟩, fun H1 s1 => ?_⟩
      have hx1 := s1 _ _ hx
      walk_at "sx"
      refine .inr (i_enumT (e_cons (e_var rfl (e_nil (i_enumT' (em.sq _) (f_enumT (xs := []) (fun i σ' H' => σ' = [some (.ref x), some (.int n), some (.ref a.df_Order__init___0), none, none] ∧ H' = H1) ⟨rfl, rfl⟩ (fun _ _ _ _ _ => em.sq _) (fun i y T' σ' H' hy => by cases hy) ?_))))))
      rintro σ' H' ⟨rfl, rfl⟩
      walk_at "sx"
      refine ⟨n, _, rfl, em, n0, n1, fun p H2 s2 => ?_⟩
      have hx2 := s2 _ _ hx1
      walk_at "sx"
      exact k _ (((SB.of s1).trans (SB.of s2)).trans SB.refl.upd) ⟨_, upd_same⟩
    · have z : (D.int n).inR 0 200 = true := by
        show (decide ((0 : Int) ≤ n) && decide (n ≤ 200)) = true
        rw [decide_eq_true (by omega), decide_eq_true (by omega)]
        rfl
      exact absurd (z.symm.trans e) (by decide)

/-! ### check_span -/
--@raises
def sp_check_span (a : Ad) : Sp := fun vs H Q E => ∃ (v : V) (d : D), vs = [v] ∧ Dv H v d ∧ (d.inR 2 6 = true → Q .non H) ∧ (d.inR 2 6 = false → E (.ref a.BadNumber) none H)
theorem ok_check_span (T : Txt K mg a d) : FnOk P w K mg base (L2.CX P w) 4 a.check_span d.check_span ["span"] (sp_check_span a) := by
  refine T.F_check_span.okX sc_check_span (fun vs H Q E h => ?_) (fun cdv A outer s H vs Q E hr h => ⟨_, (pss_one (ps_expr (pe_call (ok_check_number T) (hr.mono (by omega)) rfl T.g_check_number T.F_check_number.kp T.b_check_number .nil (passes_call (takes_of rfl rfl rfl rfl) (fun _ _ _ _ z => z)) (pa_cons (pe_glob (v := .int 2) rfl T.c_LEAST_SPAN.choose_spec ⟨_, rfl⟩) (pa_cons (pe_glob (v := .int 6) rfl T.c_MOST_SPAN.choose_spec ⟨_, rfl⟩) (pa_cons (pv 0) pa_nil)))))), ?_⟩)
  · obtain ⟨v, d, rfl, _⟩ := h
    rfl
  · obtain ⟨v, d, rfl, hd, k1, k2⟩ := h
    walk_at "sx"
    refine ⟨2, 6, v, d, rfl, hd, fun e => ?_, k2⟩
    walk_at "sx"
    exact k1 e

/-! ### windows -/
--@raises
/-- the windows of s members -/
def winD (s : Nat) (ds : List D) : List D := (List.range (ds.length + 1 - s)).map fun i => .tup ((ds.drop i).take s)
def sp_windows (K : PySem.W.Frag) (a : Ad) : Sp := fun vs H Q E => ∃ (x y : V) (dy : D), vs = [x, y] ∧ Dv H y dy ∧
  (((∀ H', Same H H' → SeqIs K H' x false) ∧ ∀ d H', H d = none → Same H H' → H' d = some (.xd [("bad_at", .non)]) → E (.ref a.BadWalk) (some d) H') ∨
   ∃ (p : Addr) (xs : List V) (ds : List D), x = .ref p ∧ SeqAt' H p xs ∧ xs.length ≤ 3000 ∧ DvL H xs ds ∧
    ((∃ (i : Nat) (b : D), ds[i]? = some b ∧ b.isInt = false ∧ (∀ j c, j < i → ds[j]? = some c → c.isInt = true) ∧
        ∀ d H', H d = none → Same H H' → H' d = some (.xd [("bad_at", .int i)]) → E (.ref a.BadWalk) (some d) H') ∨
     ((∀ (j : Nat) c, ds[j]? = some c → c.isInt = true) ∧
       (dy.inR 2 6 = false → ∀ H', Same H H' → E (.ref a.BadNumber) none H') ∧
       (∀ s : Nat, dy = .int s → 2 ≤ s → s ≤ 6 → ∀ q H', H q = none → Same H H' → Dv H' (.ref q) (.lst (winD s ds)) → Q (.ref q) H'))))
theorem ok_windows (T : Txt K mg a d) : FnOk P w K mg base (L2.CX P w) 5 a.windows d.windows ["walk", "span"] (sp_windows K a) := by
  refine T.F_windows.okX sc_windows (fun vs H Q E h => ?_) (fun cdv A outer s H vs Q E hr h => ⟨_, (pss_cons (ps_if (pt_not (pt_val (pe_call (ok_is_sequence T) (hr.mono (by omega)) rfl T.g_is_sequence T.F_is_sequence.kp T.b_is_sequence .nil pass0 (pa_cons (pv 0) pa_nil)))) (pss_one (ps_raise1 (f := "bad_at") rfl (takes_of rfl rfl rfl rfl) T.o_BadWalk T.i_BadWalk T.ti_BadWalk (ok_BadWalk__init__ T) (hr.mono (by omega)) T.b_BadWalk__init__ T.g_BadWalk (pa_cons pe_non pa_nil) mono_cc)) pss_nil)
      (pss_cons (ps_for (passes_of rfl) rfl (pi_or (kp_enum K rfl T.m_enumerate (pa_cons (pv 0) pa_nil)) (kp_enumT K rfl T.m_enumerate (pa_cons (pv 0) pa_nil))) (kg_tup K rfl (pgs_cons (pg_name (i := 2) sc_windows.nd rfl (by first | exact Or.inl rfl | exact Or.inr rfl)) (pgs_cons (pg_name (i := 3) sc_windows.nd rfl (by first | exact Or.inl rfl | exact Or.inr rfl)) pgs_nil))) (pss_one (ps_if (pt_not (pt_val (pe_call (ok_is_whole T) (hr.mono (by omega)) rfl T.g_is_whole T.F_is_whole.kp T.b_is_whole .nil pass0 (pa_cons (pv 3) pa_nil)))) (pss_one (ps_raise1 (f := "bad_at") rfl (takes_of rfl rfl rfl rfl) T.o_BadWalk T.i_BadWalk T.ti_BadWalk (ok_BadWalk__init__ T) (hr.mono (by omega)) T.b_BadWalk__init__ T.g_BadWalk (pa_cons (pv 2) pa_nil) mono_cv)) pss_nil)))
      (pss_cons (ps_expr (pe_call (ok_check_span T) (hr.mono (by omega)) rfl T.g_check_span T.F_check_span.kp T.b_check_span .nil (passes_call (takes_of rfl rfl rfl rfl) (fun _ _ _ _ z => z)) (pa_cons (pv 1) pa_nil)))
      (pss_one (ps_ret (pe_lc (own := [("i", 2)]) (g := gName 2) (tt := tYes) rfl sc_windows.nd (pi_range1 rfl T.m_range (pa_cons (pe_op (k_add K) (pe_op op_sub (pe_callB (k_len K) (by rfl) T.m_len bt_len (pa_cons (pv 0) pa_nil)) (pv 1)) pe_int) pa_nil)) (blkOk_by (N := ["walk", "span", "i", "member"]) (sc := defScope s_windows) (by decide +kernel)) (fun _ _ _ _ _ => (pg_name (i := 2) sc_windows.nd rfl (by first | exact Or.inl rfl | exact Or.inr rfl))) (fun _ _ _ _ _ => pts_nil) (fun _ _ _ _ _ => (pe_callTy (k_tup K) (by rfl) T.m_tuple bt_tuple (pa_cons (pe_slice (k_sl K) (pv 0) (po_some (pv 2)) (po_some (pe_op (k_add K) (pv 2) (pv 1)))) pa_nil))))))))), ?_⟩)
  · obtain ⟨x, y, dy, rfl, _⟩ := h
    rfl
  · obtain ⟨x, y, dy, rfl, hy, hc⟩ := h
    walk_at "sx"
    rcases hc with ⟨hx, k⟩ | ⟨p, xs, ds, rfl, hp, hl, hds, hc⟩
    · refine ⟨x, false, rfl, hx, fun H1 s1 => ?_⟩
      walk_at "sx"
      exact fun d H2 h1 s2 h2 => k d H2 (s1.free h1) (s1.trans s2) h2
    · refine ⟨.ref p, true, rfl, fun H1 s1 => ?_, fun H1 s1 => ?_⟩
      · rcases hp with hp | hp
        · exact ⟨_, .base (.lst (s1 _ _ hp)), kit_ty2 (kit_seq (.lst []))⟩
        · exact ⟨_, .base (.tup (s1 _ _ hp)), kit_ty2 (kit_seq (.tup []))⟩
      · walk_at "sx"
        refine o_enum rfl (hp.same s1) (fun i σ H' => Same H H' ∧ (∀ j c, j < i → ds[j]? = some c → c.isInt = true) ∧ ∃ u v, σ = [some (.ref p), some y, u, v]) ⟨s1, fun j c h => absurd h (Nat.not_lt_zero j), _, _, rfl⟩ (fun i σ' H' _ ⟨s2, _⟩ o ho => ?_) ?_ ?_
        · rcases hp with e | e
          · rw [s1 _ _ e] at ho; rw [← ho]; exact s2 _ _ e
          · rw [s1 _ _ e] at ho; rw [← ho]; exact s2 _ _ e
        · rintro i x T' σ H1 hx ⟨s2, hpre, u, v, rfl⟩ hT
          have hi : i < ds.length := by
            rw [← DvL.length hds]
            exact (List.getElem?_eq_some_iff.mp hx).1
          obtain ⟨z, hz1, hz2⟩ := DvL.get hds (i := i) (List.getElem?_eq_getElem hi)
          rw [hx] at hz1
          obtain rfl := Option.some.inj hz1
          have s3 : Same H (upd H1 T' (.tup [.int (i : Nat), x])) := nw_up s2 hT
          walk_at "sx"
          refine ⟨x, ds[i], rfl, hz2.mono s3, ?_⟩
          walk_at "sx"
          cases e : ds[i].isInt with
          | true =>
            walk_at "sx"
            refine ⟨s3, fun j c hj hc => ?_, _, _, rfl⟩
            by_cases e2 : j = i
            · subst e2
              rw [List.getElem?_eq_getElem hi] at hc
              rw [← Option.some.inj hc]; exact e
            · exact hpre j c (by omega) hc
          | false =>
            walk_at "sx"
            rcases hc with ⟨i0, b, h1, h2, h3, k⟩ | ⟨h1, _⟩
            · have ei : i0 = i := by
                rcases Nat.lt_trichotomy i0 i with h | h | h
                · rw [hpre i0 b h h1] at h2; cases h2
                · exact h
                · rw [h3 i _ h (List.getElem?_eq_getElem hi)] at e; cases e
              subst ei
              exact fun d H2 e1 s4 e3 => k d H2 (s3.free e1) (s3.trans s4) e3
            · rw [h1 i _ (List.getElem?_eq_getElem hi)] at e; cases e
        · rintro σ H1 ⟨s2, hpre, u, v, rfl⟩
          rcases hc with ⟨i0, b, h1, h2, h3, k⟩ | ⟨h1, k1, k2⟩
          · have : i0 < xs.length := by rw [DvL.length hds]; exact (List.getElem?_eq_some_iff.mp h1).1
            rw [hpre i0 b this h1] at h2; cases h2
          · walk_at "sx"
            refine ⟨y, dy, rfl, hy.mono s2, fun e => ?_, fun e => k1 e H1 s2⟩
            obtain ⟨s, rfl, hs1, hs2⟩ : ∃ s : Nat, dy = .int s ∧ 2 ≤ s ∧ s ≤ 6 := by
              cases dy with
              | int n =>
                have h := Bool.and_eq_true_iff.mp (show (decide (2 ≤ n) && decide (n ≤ 6)) = true from e)
                have h2 := of_decide_eq_true h.1
                have h3 := of_decide_eq_true h.2
                exact ⟨n.toNat, by rw [Int.toNat_of_nonneg (by omega)], by omega, by omega⟩
              | _ => cases e
            obtain rfl : y = .int s := hy
            have hlen := DvL.length hds
            walk_at "sx"
            refine r_lenS (hp.same s2) ?_
            walk_at "sx"
            rename_i L hL
            have hLH : H L = none := s2.free hL
            have en : ((xs.length : Int) - (s : Int) + 1).toNat = ds.length + 1 - s := by omega
            refine c_range (fun i H2 => Same H H2 ∧ ∃ acc, H2 L = some (.lst acc) ∧ acc.length = i ∧ DvL (wo L H2) acc ((List.range i).map fun i => .tup ((ds.drop i).take s))) ⟨nw_up s2 hL, [], upd_same, rfl, rfl⟩ ?_ ?_
            · rintro i H2 hi ⟨s3, acc, ha, hal, hav⟩
              have hi2 : i + s ≤ xs.length := by omega
              walk_at "sx"
              refine r_slS (hp.same s3) fun q H3 s4 hq _ => ?_
              walk_at "sx"
              refine r_tupS hq fun q2 H4 s5 hq2 _ => ?_
              have s6 := (s3.trans s4).trans s5
              have hL4 := s5 _ _ (s4 _ _ ha)
              have nq : q2 ≠ L := ne_of hq2 hL4 (by intro z; cases z)
              rw [show (0 : Int) + (i : Int) = (i : Int) by omega, cut_mid hi2] at hq2
              refine ⟨acc, hL4, by have : xs.length ≤ 3000 := hl; have : sizeLine = 16777216 := sizeLine_eq; omega, same_mut s6 hLH, _, upd_same, by rw [List.length_append, hal]; rfl, ?_⟩
              rw [wo_upd, List.range_succ, List.map_append]
              refine DvL.append (hav.mono (same_wo ((wo_sub).trans (s4.trans s5)) wo_same)) ⟨_, _, rfl, ⟨q2, _, rfl, wo_at hq2 nq, ?_, DvL.take s (DvL.drop i (hds.mono (same_wo s6 hLH)))⟩, rfl⟩
              refine Nat.le_trans (List.length_take_le _ _) ?_
              have : sizeLine = 16777216 := sizeLine_eq
              omega
            · rintro H2 ⟨s3, acc, ha, hal, hav⟩
              refine k2 s rfl hs1 hs2 L H2 hLH s3 ⟨L, acc, rfl, ha, ?_, ?_⟩
              · have : sizeLine = 16777216 := sizeLine_eq
                omega
              · rw [en] at hav
                exact hav.mono wo_sub

/-! ### _law_mix -/
/-- the generator's own number: any from 0 to 2 ^ 61 - 2 -/
def sp_law_mix : Sp := fun vs H Q _ => ∃ (v s : Int), vs = [.int v, .int s] ∧ ∀ r : Int, 0 ≤ r → r < 2305843009213693951 → Q (.int r) H
theorem ok_law_mix (T : Txt K mg a d) : FnOk P w K mg base CX0 1 a.law_mix d.law_mix ["value", "step"] sp_law_mix := by
  refine T.F_law_mix.ok sc_law_mix (fun vs H Q E h => ?_) (fun cdv A outer s H vs Q E hr h => ⟨_, (pss_cons (ps_set (i := 2) sc_law_mix.nd rfl (by first | exact Or.inl rfl | exact Or.inr rfl) (pe_op op_mod' (pe_callTy call_int1' (by rfl) T.m_int bt_int (pa_cons (pe_op (k_add K) (pe_op op_mulG (pe_op (k_add K) (pv 0) pe_int) pe_int) (pe_op op_mulG (pe_op (k_add K) (pv 1) pe_int) pe_int)) pa_nil)) pe_int))
      (pss_one (ps_ret (pe_op op_mod' (pe_callTy call_int1' (by rfl) T.m_int bt_int (pa_cons (pe_op (k_add K) (pe_op op_mulG (pe_op (k_add K) (pe_op (k_add K) (pe_op op_div' (pv 2) pe_int) (pe_op op_mulG (pv 2) (pv 2))) pe_int) pe_int) (pv 1)) pa_nil)) pe_int)))), ?_⟩)
  · obtain ⟨v, s, rfl, _⟩ := h
    rfl
  · obtain ⟨v, s, rfl, k⟩ := h
    walk_at "sx"
    refine k _ ?_ ?_ <;> omega

/-! ### _law_store -/
def sp_law_store (K : PySem.W.Frag) : Sp := fun vs H Q _ => ∃ (q : Addr) (ns : List Int), vs = [.ref q] ∧ SqL K H q (ns.map V.int) ∧ ns.length ≤ 63 ∧
  ∀ p c H', H p = none → Same H H' → Sto H' p c → Q (.ref p) H'
theorem ok_law_store (T : Txt K mg a d) : FnOk P w K mg base CX0 1 a.law_store d.law_store ["script"] (sp_law_store K) := by
  refine T.F_law_store.ok sc_law_store (fun vs H Q E h => ?_) (fun cdv A outer s H vs Q E hr h => ⟨_, (pss_one (ps_ret (pe_lst (pa_cons (pe_lc (own := [("cell", 1)]) (g := gName 1) (tt := tYes) rfl sc_law_store.nd (pi_or (kp_list K (pv 0)) (kp_tup K (pv 0))) (blkOk_by (N := ["script", "cell"]) (sc := defScope s_law_store) (by decide +kernel)) (fun _ _ _ _ _ => (pg_name (i := 1) sc_law_store.nd rfl (by first | exact Or.inl rfl | exact Or.inr rfl))) (fun _ _ _ _ _ => pts_nil) (fun _ _ _ _ _ => (pe_callTy call_int1' (by rfl) T.m_int bt_int (pa_cons (pv 1) pa_nil)))) (pa_cons pe_int (pa_cons pe_int (pa_cons pe_int (pa_cons pe_int pa_nil)))))))), ?_⟩)
  · obtain ⟨q, ns, rfl, _⟩ := h
    rfl
  · obtain ⟨q, ns, rfl, hq, hn, k⟩ := h
    walk_at "sx"
    refine Or.inl (i_list (e_var rfl (i_list' hq (all_new fun L hL => ?_))))
    refine c_list (xs := ns.map V.int) (fun i H' => Same H H' ∧ H' L = some (.lst ((ns.take i).map V.int))) ⟨nw_new hL, upd_same⟩ (fun i H' _ h => h.1.seq hq) ?_ ?_
    · rintro i x H' hx ⟨s1, h1⟩
      obtain ⟨z, hz, rfl⟩ : ∃ z, ns[i]? = some z ∧ x = V.int z := by
        rw [List.getElem?_map] at hx
        cases e : ns[i]? with
        | none => rw [e] at hx; cases hx
        | some z => rw [e] at hx; exact ⟨z, rfl, (Option.some.inj hx).symm⟩
      walk_at "sx"
      refine ⟨_, h1, ?_, same_mut s1 hL, ?_⟩
      · rw [List.length_map]
        have := List.length_take_le' i ns
        have : sizeLine = 16777216 := sizeLine_eq
        omega
      · have e : (ns.take (i + 1)).map V.int = (ns.take i).map V.int ++ [V.int z] := by
          rw [List.take_succ, hz, List.map_append]
          rfl
        rw [e]
        exact upd_same
    · rintro H' ⟨s1, h1⟩
      rw [List.length_map, List.take_length] at h1
      walk_at "sx"
      rename_i p hp
      refine k p L _ (s1.free hp) (nw_up s1 hp) ⟨ns, 0, 0, 20261119, 0, upd_same, nw_new hp _ _ h1, nw_ne hp h1, Nat.zero_le _, ?_⟩
      have : sizeLine = 16777216 := sizeLine_eq
      omega

/-! ### _law_take -/
--@level 2
/-- a draw: some t from 0, below many where many is 2 or more, 0 otherwise -/
def sp_law_take : Sp := fun vs H Q _ => ∃ (p c : Addr) (m : Int), vs = [.ref p, .int m] ∧ Sto H p c ∧ m.natAbs < 2 ^ 8000 ∧
  ∀ (t : Int) (H' : Hp), 0 ≤ t → (m ≤ 1 → t = 0) → (1 < m → t < m) → SB p H H' → Sto H' p c → Q (.int t) H'
theorem ok_law_take (T : Txt K mg a d) : FnOk P w K mg base CX0 2 a.law_take d.law_take ["store", "many"] sp_law_take := by
  refine T.F_law_take.ok sc_law_take (fun vs H Q E h => ?_) (fun cdv A outer s H vs Q E hr h => ⟨_, (pss_cons (ps_if (pt_cmpR op_le (pv 1) pe_int (nomark _)) (pss_one (ps_ret pe_int)) pss_nil)
      (pss_cons (ps_if (pt_cmpR op_gt (pe_ix (k_ix K) (pv 0) pe_int (fun _ _ => rfl)) pe_int (nomark _)) (pss_cons (ps_set (i := 7) sc_law_take.nd rfl (by first | exact Or.inl rfl | exact Or.inr rfl) (pe_op op_mod' (pe_callTy call_int1' (by rfl) T.m_int bt_int (pa_cons (pe_ix (k_ix K) (pv 0) pe_int (fun _ _ => rfl)) pa_nil)) (pv 1)))
      (pss_cons (ps_asg (pe_op op_div' (pe_ix (k_ix K) (pv 0) pe_int (fun _ _ => rfl)) (pv 1)) (pg_sub (pv 0) pe_int set_list))
      (pss_one (ps_ret (pv 7))))) pss_nil)
      (pss_cons (ps_asg (pe_op (k_add K) (pe_ix (k_ix K) (pv 0) pe_int (fun _ _ => rfl)) pe_int) (pg_sub (pv 0) pe_int set_list))
      (pss_cons (ps_set (i := 2) sc_law_take.nd rfl (by first | exact Or.inl rfl | exact Or.inr rfl) pe_int)
      (pss_cons (ps_set (i := 3) sc_law_take.nd rfl (by first | exact Or.inl rfl | exact Or.inr rfl) (pe_op op_mulG pe_int (pe_ix (k_ix K) (pv 0) pe_int (fun _ _ => rfl))))
      (pss_cons (ps_if (pt_cmpR op_lt (pe_ix (k_ix K) (pv 0) pe_int (fun _ _ => rfl)) (pe_callB (k_len K) (by rfl) T.m_len bt_len (pa_cons (pe_ix (k_ix K) (pv 0) pe_int (fun _ _ => rfl)) pa_nil)) (nomark _)) (pss_cons (ps_set (i := 2) sc_law_take.nd rfl (by first | exact Or.inl rfl | exact Or.inr rfl) (pe_ix (k_ix K) (pe_ix (k_ix K) (pv 0) pe_int (fun _ _ => rfl)) (pe_ix (k_ix K) (pv 0) pe_int (fun _ _ => rfl)) (fun _ _ => rfl)))
      (pss_cons (ps_asg (pe_op (k_add K) (pe_ix (k_ix K) (pv 0) pe_int (fun _ _ => rfl)) pe_int) (pg_sub (pv 0) pe_int set_list))
      (pss_one (ps_set (i := 3) sc_law_take.nd rfl (by first | exact Or.inl rfl | exact Or.inr rfl) (pe_op (k_add K) (pv 3) pe_int))))) pss_nil)
      (pss_cons (ps_asg (pe_call (ok_law_mix T) (hr.mono (by omega)) rfl T.g_law_mix T.F_law_mix.kp T.b_law_mix .nil pass0 (pa_cons (pe_op (k_add K) (pe_ix (k_ix K) (pv 0) pe_int (fun _ _ => rfl)) (pe_op op_mod' (pe_callTy call_int1' (by rfl) T.m_int bt_int (pa_cons (pv 2) pa_nil)) pe_int)) (pa_cons (pv 3) pa_nil))) (pg_sub (pv 0) pe_int set_list))
      (pss_cons (ps_if (pt_cmpR op_ge (pv 2) (pe_op op_pow' pe_int pe_int) (nomark _)) (pss_cons (ps_asg (pe_op op_div' (pv 2) (pv 1)) (pg_sub (pv 0) pe_int set_list))
      (pss_one (ps_ret (pe_op op_mod' (pe_callTy call_int1' (by rfl) T.m_int bt_int (pa_cons (pv 2) pa_nil)) (pv 1))))) pss_nil)
      (pss_cons (ps_set (i := 4) sc_law_take.nd rfl (by first | exact Or.inl rfl | exact Or.inr rfl) (pe_call (ok_law_mix T) (hr.mono (by omega)) rfl T.g_law_mix T.F_law_mix.kp T.b_law_mix .nil pass0 (pa_cons (pe_ix (k_ix K) (pv 0) pe_int (fun _ _ => rfl)) (pa_cons pe_int pa_nil))))
      (pss_cons (ps_set (i := 5) sc_law_take.nd rfl (by first | exact Or.inl rfl | exact Or.inr rfl) pe_int)
      (pss_cons (ps_for PassesOwn.never rfl (pi_range1 rfl T.m_range (pa_cons pe_int pa_nil)) (pg_name (i := 6) sc_law_take.nd rfl (by first | exact Or.inl rfl | exact Or.inr rfl)) (pss_cons (ps_if (pt_cmpR op_ge (pv 5) (pe_op op_mulG (pv 1) pe_int) (nomark _)) (pss_one ps_break) pss_nil)
      (pss_cons (ps_set (i := 4) sc_law_take.nd rfl (by first | exact Or.inl rfl | exact Or.inr rfl) (pe_op (k_add K) (pe_op op_mulG (pv 4) pe_int) (pe_call (ok_law_mix T) (hr.mono (by omega)) rfl T.g_law_mix T.F_law_mix.kp T.b_law_mix .nil pass0 (pa_cons (pe_ix (k_ix K) (pv 0) pe_int (fun _ _ => rfl)) (pa_cons (pe_op (k_add K) (pv 6) pe_int) pa_nil)))))
      (pss_one (ps_set (i := 5) sc_law_take.nd rfl (by first | exact Or.inl rfl | exact Or.inr rfl) (pe_op op_mulG (pv 5) pe_int))))))
      (pss_one (ps_ret (pe_op op_mod' (pe_callTy call_int1' (by rfl) T.m_int bt_int (pa_cons (pv 4) pa_nil)) (pv 1))))))))))))))), ?_⟩)
  · obtain ⟨p, c, m, rfl, _⟩ := h
    rfl
  · obtain ⟨p, c, m, rfl, S, hm, k⟩ := h
    obtain ⟨cells, at', bank, mx, cnt, hp, hc, ncp, hat, hsz⟩ := id S
    have hW : ¬ m ≤ 1 → ∀ i, CDivW i m := fun h i => wide_div (b := 8000) (by omega) hm (by decide) (by decide)
    have st : ∀ (at2 : Nat) (b2 x2 n2 : Int) (H2 : Hp), at2 ≤ cells.length → SB p H H2 → H2 p = some (.lst [.ref c, .int at2, .int b2, .int x2, .int n2]) → Sto H2 p c := fun at2 b2 x2 n2 H2 h sb e =>
      ⟨cells, at2, b2, x2, n2, e, sb _ _ ncp hc, ncp, h, hsz⟩
    walk_at "sx"
    refine if_d (fun h1 => ?_) (fun h1 => ?_)
    · walk_at "sx"
      exact k 0 H (by omega) (fun _ => rfl) (by omega) SB.refl S
    · walk_at "sx"
      refine if_d (fun h2 => ?_) (fun h2 => ?_)
      · walk_at "sx"
        refine r_div (hW h1 _) ?_
        walk_at "sx"
        exact k _ _ (Int.emod_nonneg _ (by omega)) (by omega) (fun _ => Int.emod_lt_of_pos _ (by omega)) SB.refl.upd (st _ _ _ _ _ hat SB.refl.upd upd_same)
      · -- a cell is taken or 0; either way what follows is the same
        walk_at "sx"
        rw [List.length_map]
        refine if_d (fun h3 => ?_) (fun h3 => ?_)
        · have hl : at' < cells.length := by omega
          have hcell : atI (cells.map V.int) (at' : Int) = some (.int cells[at']) := atI_nat (by simp [hl])
          walk_at "sx"
          refine r_ixL' ((upd_ne ncp).trans hc) hcell ?_
          walk_at "sx"
          refine ⟨_, _, rfl, fun r r0 r1 => ?_⟩
          walk_at "sx"
          refine if_d (fun h4 => ?_) (fun h4 => ?_)
          · walk_at "sx"
            refine r_div (hW h1 _) ?_
            walk_at "sx"
            refine k _ _ (Int.emod_nonneg _ (by omega)) (by omega) (fun _ => Int.emod_lt_of_pos _ (by omega)) ?_ (st (at' + 1) _ _ _ _ hl ?_ upd_same) <;> exact SB.refl.upd.upd.upd.upd
          · walk_at "sx"
            refine ⟨_, _, rfl, fun r2 r20 r21 => ?_⟩
            walk_at "sx"
            generalize hH2 : upd (upd (upd H p _) p _) p _ = H2
            have sb2 : SB p H H2 := by rw [← hH2]; exact SB.refl.upd.upd.upd
            have hp2 : H2 p = some (.lst [.ref c, .int ((at' + 1 : Nat) : Int), .int bank, .int r, .int (cnt + 1)]) := by rw [← hH2]; exact upd_same
            refine f_range (fun i σ H' => H' = H2 ∧ ∃ v z q, σ = [some (.ref p), some (.int m), some (.int cells[at']), some (.int (2 * (cnt + 1) + 1)), some (.int v), some (.int z), q, none]) ⟨rfl, _, _, _, rfl⟩ ?_ ?_
            · rintro i σ H' hi ⟨rfl, v, z, q, rfl⟩
              walk_at "sx"
              refine if_d (fun h5 => ?_) (fun h5 => ?_)
              · walk_at "sx"
                exact k _ _ (Int.emod_nonneg _ (by omega)) (by omega) (fun _ => Int.emod_lt_of_pos _ (by omega)) sb2 (st (at' + 1) _ _ _ _ hl sb2 hp2)
              · walk_at "sx"
                refine ⟨_, _, rfl, fun r3 r30 r31 => ?_⟩
                walk_at "sx"
                exact ⟨_, _, _, rfl⟩
            · rintro σ H' ⟨rfl, v, z, q, rfl⟩
              walk_at "sx"
              exact k _ _ (Int.emod_nonneg _ (by omega)) (by omega) (fun _ => Int.emod_lt_of_pos _ (by omega)) sb2 (st (at' + 1) _ _ _ _ hl sb2 hp2)
        · walk_at "sx"
          refine ⟨_, _, rfl, fun r r0 r1 => ?_⟩
          walk_at "sx"
          refine ⟨_, _, rfl, fun r2 r20 r21 => ?_⟩
          walk_at "sx"
          generalize hH2 : upd (upd H p _) p _ = H2
          have sb2 : SB p H H2 := by rw [← hH2]; exact SB.refl.upd.upd
          have hp2 : H2 p = some (.lst [.ref c, .int (at' : Int), .int bank, .int r, .int (cnt + 1)]) := by rw [← hH2]; exact upd_same
          refine f_range (fun i σ H' => H' = H2 ∧ ∃ v z q, σ = [some (.ref p), some (.int m), some (.int 0), some (.int (2 * (cnt + 1))), some (.int v), some (.int z), q, none]) ⟨rfl, _, _, _, rfl⟩ ?_ ?_
          · rintro i σ H' hi ⟨rfl, v, z, q, rfl⟩
            walk_at "sx"
            refine if_d (fun h5 => ?_) (fun h5 => ?_)
            · walk_at "sx"
              exact k _ _ (Int.emod_nonneg _ (by omega)) (by omega) (fun _ => Int.emod_lt_of_pos _ (by omega)) sb2 (st at' _ _ _ _ hat sb2 hp2)
            · walk_at "sx"
              refine ⟨_, _, rfl, fun r3 r30 r31 => ?_⟩
              walk_at "sx"
              exact ⟨_, _, _, rfl⟩
          · rintro σ H' ⟨rfl, v, z, q, rfl⟩
            walk_at "sx"
            exact k _ _ (Int.emod_nonneg _ (by omega)) (by omega) (fun _ => Int.emod_lt_of_pos _ (by omega)) sb2 (st at' _ _ _ _ hat sb2 hp2)

/-! ### _law_edge -/
/-- low where high is not greater; otherwise some t from low to high -/
def sp_law_edge : Sp := fun vs H Q _ => ∃ (p c : Addr) (lo hi : Int), vs = [.ref p, .int lo, .int hi] ∧ Sto H p c ∧ (hi - lo + 1).natAbs < 2 ^ 8000 ∧
  ∀ (t : Int) (H' : Hp), (hi ≤ lo → t = lo) → (lo < hi → lo ≤ t ∧ t ≤ hi) → SB p H H' → Sto H' p c → Q (.int t) H'
theorem ok_law_edge (T : Txt K mg a d) : FnOk P w K mg base CX0 3 a.law_edge d.law_edge ["store", "low", "high"] sp_law_edge := by
  refine T.F_law_edge.ok sc_law_edge (fun vs H Q E h => ?_) (fun cdv A outer s H vs Q E hr h => ⟨_, (pss_cons (ps_if (pt_cmpR op_le (pv 2) (pv 1) (nomark _)) (pss_one (ps_ret (pv 1))) pss_nil)
      (pss_cons (ps_set (i := 3) sc_law_edge.nd rfl (by first | exact Or.inl rfl | exact Or.inr rfl) (pe_call (ok_law_take T) (hr.mono (by omega)) rfl T.g_law_take T.F_law_take.kp T.b_law_take .nil pass0 (pa_cons (pv 0) (pa_cons pe_int pa_nil))))
      (pss_cons (ps_if (pt_cmpR (k_eq K hr.units) (pv 3) pe_int (nomark _)) (pss_one (ps_ret (pv 1))) pss_nil)
      (pss_cons (ps_if (pt_cmpR (k_eq K hr.units) (pv 3) pe_int (nomark _)) (pss_one (ps_ret (pv 2))) pss_nil)
      (pss_one (ps_ret (pe_op (k_add K) (pv 1) (pe_call (ok_law_take T) (hr.mono (by omega)) rfl T.g_law_take T.F_law_take.kp T.b_law_take .nil pass0 (pa_cons (pv 0) (pa_cons (pe_op (k_add K) (pe_op op_sub (pv 2) (pv 1)) pe_int) pa_nil)))))))))), ?_⟩)
  · obtain ⟨p, c, lo, hi, rfl, _⟩ := h
    rfl
  · obtain ⟨p, c, lo, hi, rfl, S, hm, k⟩ := h
    walk_at "sx"
    refine if_d (fun h1 => ?_) (fun h1 => ?_)
    · walk_at "sx"
      exact k lo H (fun _ => rfl) (by omega) SB.refl S
    · walk_at "sx"
      refine ⟨_, _, _, rfl, S, by decide, fun t H1 t0 _ t1 sb1 S1 => ?_⟩
      walk_at "sx"
      refine if_d (fun h2 => ?_) (fun h2 => ?_)
      · walk_at "sx"
        exact k lo H1 (fun _ => rfl) (by omega) sb1 S1
      · walk_at "sx"
        refine if_d (fun h3 => ?_) (fun h3 => ?_)
        · walk_at "sx"
          exact k hi H1 (by omega) (by omega) sb1 S1
        · walk_at "sx"
          refine ⟨_, _, _, rfl, S1, hm, fun t2 H2 t20 t21 t22 sb2 S2 => ?_⟩
          walk_at "sx"
          exact k _ H2 (by omega) (by omega) (sb1.trans sb2) S2

/-! ### _law_row -/
/-- a new list of numbers from 0, below many -/
def sp_law_row : Sp := fun vs H Q _ => ∃ (p c : Addr) (size many : Int), vs = [.ref p, .int size, .int many] ∧ Sto H p c ∧ size ≤ 3000 ∧ many.natAbs < 2 ^ 8000 ∧
  ∀ (q : Addr) (ns : List Int) (H' : Hp), H q = none → H' q = some (.lst (ns.map V.int)) → ns.length ≤ size.toNat → (0 < many → ns.length = size.toNat) → (∀ n ∈ ns, 0 ≤ n ∧ n < many) → SB p H H' → Sto H' p c → Q (.ref q) H'
theorem ok_law_row (T : Txt K mg a d) : FnOk P w K mg base CX0 3 a.law_row d.law_row ["store", "size", "many"] sp_law_row := by
  refine T.F_law_row.ok sc_law_row (fun vs H Q E h => ?_) (fun cdv A outer s H vs Q E hr h => ⟨_, (pss_cons (ps_if (PW.pt (pw_or (pt_cmpR op_le (pv 1) pe_int (nomark _)) (pw_or1 (pt_cmpR op_le (pv 2) pe_int (nomark _))))) (pss_one (ps_ret (pe_lst pa_nil))) pss_nil)
      (pss_cons (ps_set (i := 3) sc_law_row.nd rfl (by first | exact Or.inl rfl | exact Or.inr rfl) (pe_call (ok_law_take T) (hr.mono (by omega)) rfl T.g_law_take T.F_law_take.kp T.b_law_take .nil pass0 (pa_cons (pv 0) (pa_cons pe_int pa_nil))))
      (pss_cons (ps_if (pt_cmpR op_gt (pv 3) pe_int (nomark _)) (pss_one (ps_ret (pe_lc (own := [("k", 5)]) (g := gName 5) (tt := tYes) rfl sc_law_row.nd (pi_range1 rfl T.m_range (pa_cons (pv 1) pa_nil)) (blkOk_by (N := ["store", "size", "many", "kind", "out", "k"]) (sc := defScope s_law_row) (by decide +kernel)) (fun _ _ _ _ _ => (pg_name (i := 5) sc_law_row.nd rfl (by first | exact Or.inl rfl | exact Or.inr rfl))) (fun _ _ _ _ _ => pts_nil) (fun _ _ _ _ _ => (pe_call (ok_law_take T) (hr.mono (by omega)) rfl T.g_law_take T.F_law_take.kp T.b_law_take .nil pass0 (pa_cons (pv 0) (pa_cons (pv 2) pa_nil))))))) pss_nil)
      (pss_cons (ps_set (i := 4) sc_law_row.nd rfl (by first | exact Or.inl rfl | exact Or.inr rfl) (pe_op op_mulG (pe_lst (pa_cons (pe_call (ok_law_take T) (hr.mono (by omega)) rfl T.g_law_take T.F_law_take.kp T.b_law_take .nil pass0 (pa_cons (pv 0) (pa_cons (pv 2) pa_nil))) pa_nil)) (pv 1)))
      (pss_cons (ps_if (pt_cmpR (k_eq K hr.units) (pv 3) pe_int (nomark _)) (pss_one (ps_asg (pe_call (ok_law_take T) (hr.mono (by omega)) rfl T.g_law_take T.F_law_take.kp T.b_law_take .nil pass0 (pa_cons (pv 0) (pa_cons (pv 2) pa_nil))) (pg_sub (pv 4) (pe_call (ok_law_take T) (hr.mono (by omega)) rfl T.g_law_take T.F_law_take.kp T.b_law_take .nil pass0 (pa_cons (pv 0) (pa_cons (pv 1) pa_nil))) set_list))) pss_nil)
      (pss_one (ps_ret (pv 4)))))))), ?_⟩)
  · obtain ⟨p, c, size, many, rfl, _⟩ := h
    rfl
  · obtain ⟨p, c, size, many, rfl, S, hs, hm, k⟩ := h
    have zl : sizeLine = 16777216 := sizeLine_eq
    have empty : ∀ q, Nw H q → (size ≤ 0 ∨ many ≤ 0) → Q (.ref q) (upd H q (.lst [])) := fun q hq h =>
      k q [] _ hq upd_same (Nat.zero_le _) (fun h2 => by show 0 = size.toNat; omega) (fun n h => by cases h) (SB.of (nw_new hq)) (S.keep (nw_new hq))
    walk_at "sx"
    refine if_d (fun h1 => ?_) (fun h1 => ?_)
    · walk_at "sx"
      rename_i q hq
      exact empty q hq (.inl h1)
    · walk_at "sx"
      refine if_d (fun h2 => ?_) (fun h2 => ?_)
      · walk_at "sx"
        rename_i q hq
        exact empty q hq (.inr h2)
      · walk_at "sx"
        refine ⟨_, _, _, rfl, S, by decide, fun t H1 t0 _ t1 sb1 S1 => ?_⟩
        walk_at "sx"
        refine if_d (fun h3 => ?_) (fun h3 => ?_)
        · walk_at "sx"
          rename_i L hL
          have np := (S1.ne hL).1
          have nc := (S1.ne hL).2
          have hL0 : H L = none := sb1.free np hL
          refine c_range (fun i H' => SB p H H' ∧ Sto H' p c ∧ ∃ ns : List Int, H' L = some (.lst (ns.map V.int)) ∧ ns.length = i ∧ ∀ n ∈ ns, 0 ≤ n ∧ n < many) ⟨sb1.new hL, S1.keep (nw_new hL), [], upd_same, rfl, fun n h => by cases h⟩ ?_ ?_
          · rintro i H' hi ⟨sb, S2, ns, h4, h5, h6⟩
            walk_at "sx"
            refine ⟨_, _, _, rfl, S2, hm, fun t2 H2 t20 t21 t22 sb2 S3 => ?_⟩
            have t2m : t2 < many := by
              by_cases h : 1 < many
              · exact t22 h
              · have := t21 (by omega); omega
            refine ⟨_, sb2 _ _ np h4, by rw [List.length_map]; omega, (sb.trans sb2).mut hL0, S3.mut np nc, ns ++ [t2], ?_, by rw [List.length_append, h5]; rfl, fun n hn => ?_⟩
            · rw [List.map_append]
              exact upd_same
            · rcases List.mem_append.mp hn with hn | hn
              · exact h6 n hn
              · rw [List.mem_singleton.mp hn]
                exact ⟨t20, t2m⟩
          · rintro H' ⟨sb, S2, ns, h4, h5, h6⟩
            exact k L ns H' hL0 h4 (by omega) (fun _ => h5) h6 sb S2
        · walk_at "sx"
          refine ⟨_, _, _, rfl, S1, hm, fun t2 H2 t20 t21 t22 sb2 S2 => ?_⟩
          have t2m : t2 < many := by
            by_cases h : 1 < many
            · exact t22 h
            · have := t21 (by omega); omega
          walk_at "sx"
          rename_i L1 hL1
          refine r_rep upd_same (by omega) (by omega) (by show 1 * size.toNat ≤ sizeLine; omega) fun L hL => ?_
          have sb3 : SB p H (upd (upd H2 L1 (.lst [.int t2])) L (.lst (List.replicate size.toNat [V.int t2]).flatten)) := ((sb1.trans sb2).new hL1).new hL
          have S3 := (S2.keep (nw_new (o := .lst [.int t2]) hL1)).keep (nw_new (o := .lst (List.replicate size.toNat [V.int t2]).flatten) hL)
          have np := ((S2.keep (nw_new (o := .lst [.int t2]) hL1)).ne hL).1
          have nc := ((S2.keep (nw_new (o := .lst [.int t2]) hL1)).ne hL).2
          have hL0 : H L = none := ((sb1.trans sb2).new hL1).free np hL
          have er : ∀ n : Nat, (List.replicate n [V.int t2]).flatten = (List.replicate n t2).map V.int := fun n => by
            induction n with
            | zero => rfl
            | succ n ih => rw [List.replicate_succ, List.replicate_succ, List.flatten_cons, ih]; rfl
          walk_at "sx"
          refine if_d (fun h4 => ?_) (fun h4 => ?_)
          · walk_at "sx"
            refine ⟨_, _, _, rfl, S3, hm, fun t3 H3 t30 t31 t32 sb4 S4 => ?_⟩
            have t3m : t3 < many := by
              by_cases h : 1 < many
              · exact t32 h
              · have := t31 (by omega); omega
            walk_at "sx"
            refine ⟨_, _, _, rfl, S4, Nat.lt_of_le_of_lt (show size.natAbs ≤ 3000 by omega) (by decide), fun t4 H4 t40 t41 t42 sb5 S5 => ?_⟩
            have t4s : t4 < size := by
              by_cases h : 1 < size
              · exact t42 h
              · have := t41 (by omega); omega
            refine r_setL (sb5 _ _ np (sb4 _ _ np upd_same)) (j := t4.toNat) ?_ ?_
            · rw [er, List.length_map, List.length_replicate]
              show (if 0 ≤ t4 then (if t4 < ((size.toNat : Nat) : Int) then some t4.toNat else none) else _) = _
              rw [if_pos t40, if_pos (by omega)]
            · walk_at "sx"
              rw [er, show ((List.replicate size.toNat t2).map V.int).set t4.toNat (V.int t3) = ((List.replicate size.toNat t2).set t4.toNat t3).map V.int by rw [List.map_set]]
              refine k L _ _ hL0 upd_same (by rw [List.length_set, List.length_replicate]; exact Nat.le_refl _) (fun _ => by rw [List.length_set, List.length_replicate]) (fun n hn => ?_) (((sb3.trans sb4).trans sb5).mut hL0) (S5.mut np nc)
              rcases List.mem_or_eq_of_mem_set hn with hn | hn
              · rw [(List.mem_replicate.mp hn).2]
                exact ⟨t20, by omega⟩
              · rw [hn]
                exact ⟨t30, by omega⟩
          · walk_at "sx"
            refine k L _ _ hL0 (by rw [er]; exact upd_same) (by rw [List.length_replicate]; exact Nat.le_refl _) (fun _ => List.length_replicate) (fun n hn => ?_) sb3 S3
            rw [(List.mem_replicate.mp hn).2]
            exact ⟨t20, by omega⟩

/-! ### _law_form -/
/-- the same members, as a new list or as a tuple -/
def Form (H H' : Hp) (q : Addr) (xs : List V) : Prop := (H' q = some (.lst xs) ∧ H q = none) ∨ H' q = some (.tup xs)
def sp_law_form : Sp := fun vs H Q _ => ∃ (p c r : Addr) (xs : List V), vs = [.ref p, .ref r] ∧ Sto H p c ∧ r ≠ p ∧ (H r = some (.lst xs) ∨ H r = some (.tup xs)) ∧
  ∀ (q : Addr) (H' : Hp), Form H H' q xs → q ≠ p → SB p H H' → Sto H' p c → Q (.ref q) H'
theorem ok_law_form (T : Txt K mg a d) : FnOk P w K mg base CX0 3 a.law_form d.law_form ["store", "row"] sp_law_form := by
  refine T.F_law_form.ok sc_law_form (fun vs H Q E h => ?_) (fun cdv A outer s H vs Q E hr h => ⟨_, (pss_cons (ps_if (pt_cmpR (k_eq K hr.units) (pe_call (ok_law_take T) (hr.mono (by omega)) rfl T.g_law_take T.F_law_take.kp T.b_law_take .nil pass0 (pa_cons (pv 0) (pa_cons pe_int pa_nil))) pe_int (nomark _)) (pss_one (ps_ret (pe_callTy (k_list K) (by rfl) T.m_list bt_list (pa_cons (pv 1) pa_nil)))) pss_nil)
      (pss_one (ps_ret (pe_callTy (k_tup K) (by rfl) T.m_tuple bt_tuple (pa_cons (pv 1) pa_nil))))), ?_⟩)
  · obtain ⟨p, c, r, xs, rfl, _⟩ := h
    rfl
  · obtain ⟨p, c, r, xs, rfl, S, nr, hr, k⟩ := h
    have np : ∀ {b : Addr} {H1 : Hp}, Sto H1 p c → H1 b = none → b ≠ p := fun s e z => by
      obtain ⟨cells, at', bank, mx, cnt, hp, _⟩ := s
      rw [z, hp] at e
      cases e
    walk_at "sx"
    refine ⟨_, _, _, rfl, S, by decide, fun t H1 t0 _ t1 sb1 S1 => ?_⟩
    have fr : ∀ {q : Addr}, q ≠ p → H1 q = none → H q = none := fun {q} n h => by
      cases e : H q with
      | none => rfl
      | some o => rw [sb1 _ _ n e] at h; cases h
    walk_at "sx"
    rcases hr with hr | hr
    · have hr1 := sb1 _ _ nr hr
      refine if_d (fun h1 => ?_) (fun h1 => ?_)
      · walk_at "sx"
        refine r_listL (SqL.of hr1) fun q hq => ?_
        exact k q _ (.inl ⟨upd_same, fr (np S1 hq) hq⟩) (np S1 hq) (sb1.trans (SB.of (same_new hq))) (S1.keep (same_new hq))
      · walk_at "sx"
        refine r_tupL (SqL.of hr1) fun q hq => ?_
        exact k q _ (.inr upd_same) (np S1 hq) (sb1.trans (SB.of (same_new hq))) (S1.keep (same_new hq))
    · have hr1 := sb1 _ _ nr hr
      refine if_d (fun h1 => ?_) (fun h1 => ?_)
      · walk_at "sx"
        refine r_listT (SqT.of hr1) fun q hq => ?_
        exact k q _ (.inl ⟨upd_same, fr (np S1 hq) hq⟩) (np S1 hq) (sb1.trans (SB.of (same_new hq))) (S1.keep (same_new hq))
      · walk_at "sx"
        refine r_tupT (SqT.of hr1) ?_
        exact k r _ (.inr hr1) nr sb1 S1

/-! ### _law_odd -/
/-- the odd values -/
def odds : List D := [.non, .bl true, .bl false, .str "", .str "0", .str "1", .lst [], .tup [], .lst [.int 0], .tup [.int 0], .dic [], .dic [(.inr "0", .int 0)], .lst [.non], .str "web 1"]
def sp_law_odd : Sp := fun vs H Q _ => ∃ (p c : Addr), vs = [.ref p] ∧ Sto H p c ∧
  ∀ (v : V) (d : D) (H' : Hp), d ∈ odds → Dv (wo p H') v d → SB p H H' → Sto H' p c → Q v H'
theorem ok_law_odd (T : Txt K mg a d) : FnOk P w K mg base CX0 3 a.law_odd d.law_odd ["store"] sp_law_odd := by
  refine T.F_law_odd.ok sc_law_odd (fun vs H Q E h => ?_) (fun cdv A outer s H vs Q E hr h => ⟨_, (pss_cons (ps_set (i := 1) sc_law_odd.nd rfl (by first | exact Or.inl rfl | exact Or.inr rfl) (pe_lst (pa_cons pe_non (pa_cons pe_bl (pa_cons pe_bl (pa_cons pe_str (pa_cons pe_str (pa_cons pe_str (pa_cons (pe_lst pa_nil) (pa_cons (pe_tup pa_nil) (pa_cons (pe_lst (pa_cons pe_int pa_nil)) (pa_cons (pe_tup (pa_cons pe_int pa_nil)) (pa_cons pe_dnewK (pa_cons (pe_disp (pps_cons pe_str pe_int pps_nil) (by rfl) (by rfl) (fun z => by cases z) (by decide)) (pa_cons (pe_lst (pa_cons pe_non pa_nil)) (pa_cons pe_str pa_nil))))))))))))))))
      (pss_one (ps_ret (pe_ix (k_ix K) (pv 1) (pe_call (ok_law_take T) (hr.mono (by omega)) rfl T.g_law_take T.F_law_take.kp T.b_law_take .nil pass0 (pa_cons (pv 0) (pa_cons (pe_callB (k_len K) (by rfl) T.m_len bt_len (pa_cons (pv 1) pa_nil)) pa_nil))) (fun _ _ => rfl))))), ?_⟩)
  · obtain ⟨p, c, rfl, _⟩ := h
    rfl
  · obtain ⟨p, c, rfl, S, k⟩ := h
    walk_at "sx"
    rename_i p1 h1 p2 h2 p3 h3 p4 h4 p5 h5 p6 h6 p7 h7 p8 h8
    generalize hG : upd (upd (upd _ _ _) p7 _) p8 _ = G
    have sG : Same H G := by rw [← hG]; walk_at "sames"
    have np : ∀ {b : Addr} {H1 : Hp}, Same H H1 → H1 b = none → b ≠ p := fun s e z => by
      obtain ⟨cells, at', bank, mx, cnt, hp, _⟩ := S
      rw [z, s _ _ hp] at e
      cases e
    have g1 : G p1 = some (.lst []) := by rw [← hG]; walk_at "look"
    have g2 : G p2 = some (.tup []) := by rw [← hG]; walk_at "look"
    have g3 : G p3 = some (.lst [.int 0]) := by rw [← hG]; walk_at "look"
    have g4 : G p4 = some (.tup [.int 0]) := by rw [← hG]; walk_at "look"
    have g5 : G p5 = some (.dK []) := by rw [← hG]; walk_at "look"
    have g6 : G p6 = some (.dK [(.inr "0", .int 0)]) := by rw [← hG]; walk_at "look"
    have g7 : G p7 = some (.lst [.non]) := by rw [← hG]; walk_at "look"
    have g8 : G p8 = some (.lst [.non, .bl true, .bl false, .str "", .str "0", .str "1", .ref p1, .ref p2, .ref p3, .ref p4, .ref p5, .ref p6, .ref p7, .str "web 1"]) := by rw [← hG]; walk_at "look"
    have n1 : p1 ≠ p := np (by walk_at "sames") h1
    have n2 : p2 ≠ p := np (by walk_at "sames") h2
    have n3 : p3 ≠ p := np (by walk_at "sames") h3
    have n4 : p4 ≠ p := np (by walk_at "sames") h4
    have n5 : p5 ≠ p := np (by walk_at "sames") h5
    have n6 : p6 ≠ p := np (by walk_at "sames") h6
    have n7 : p7 ≠ p := np (by walk_at "sames") h7
    have n8 : p8 ≠ p := np (by walk_at "sames") h8
    clear hG h1 h2 h3 h4 h5 h6 h7 h8
    refine ⟨_, _, _, rfl, S.keep sG, by show (14 : Int).natAbs < 2 ^ 8000; decide, fun t H1 t0 _ t1 sb1 S1 => ?_⟩
    have tb : t < 14 := t1 (by show (1 : Int) < 14; decide)
    have sb : SB p H H1 := (SB.of sG).trans sb1
    have w : ∀ {b : Addr} {o : HO}, b ≠ p → G b = some o → wo p H1 b = some o := fun n e => wo_at (sb1 _ _ n e) n
    have o0 : ∀ n : Nat, n ≤ 100 → n ≤ sizeLine := fun n h => Nat.le_trans h (by decide)
    have fin : ∀ (v : V) (d : D), [V.non, .bl true, .bl false, .str "", .str "0", .str "1", .ref p1, .ref p2, .ref p3, .ref p4, .ref p5, .ref p6, .ref p7, .str "web 1"][t.toNat]? = some v → odds[t.toNat]? = some d → Dv (wo p H1) v d → Q v H1 := fun v d _ e2 q =>
      k v d H1 (List.mem_of_getElem? e2) q sb S1
    have step : ∀ (v : V) (d : D), [V.non, .bl true, .bl false, .str "", .str "0", .str "1", .ref p1, .ref p2, .ref p3, .ref p4, .ref p5, .ref p6, .ref p7, .str "web 1"][t.toNat]? = some v → Q v H1 → rIx K (.ref p8) (.int t) H1 Q := fun v d e q => by
      refine r_ixL' (sb1 _ _ n8 g8) ?_ q
      have := atI_nat e
      rwa [Int.toNat_of_nonneg t0] at this
    have ht : t = 0 ∨ t = 1 ∨ t = 2 ∨ t = 3 ∨ t = 4 ∨ t = 5 ∨ t = 6 ∨ t = 7 ∨ t = 8 ∨ t = 9 ∨ t = 10 ∨ t = 11 ∨ t = 12 ∨ t = 13 := by omega
    rcases ht with rfl | rfl | rfl | rfl | rfl | rfl | rfl | rfl | rfl | rfl | rfl | rfl | rfl | rfl
    · exact step _ .non rfl (fin _ _ rfl rfl rfl)
    · exact step _ .non rfl (fin _ _ rfl rfl rfl)
    · exact step _ .non rfl (fin _ _ rfl rfl rfl)
    · exact step _ .non rfl (fin _ _ rfl rfl rfl)
    · exact step _ .non rfl (fin _ _ rfl rfl rfl)
    · exact step _ .non rfl (fin _ _ rfl rfl rfl)
    · exact step _ .non rfl (fin _ _ rfl rfl ⟨p1, _, rfl, w n1 g1, o0 _ (by decide), rfl⟩)
    · exact step _ .non rfl (fin _ _ rfl rfl ⟨p2, _, rfl, w n2 g2, o0 _ (by decide), rfl⟩)
    · exact step _ .non rfl (fin _ _ rfl rfl ⟨p3, _, rfl, w n3 g3, o0 _ (by decide), _, _, rfl, rfl, rfl⟩)
    · exact step _ .non rfl (fin _ _ rfl rfl ⟨p4, _, rfl, w n4 g4, o0 _ (by decide), _, _, rfl, rfl, rfl⟩)
    · exact step _ .non rfl (fin _ _ rfl rfl ⟨p5, _, rfl, w n5 g5, o0 _ (by decide), rfl⟩)
    · exact step _ .non rfl (fin _ _ rfl rfl ⟨p6, _, rfl, w n6 g6, o0 _ (by show 1 ≤ 100; decide), _, _, rfl, rfl, rfl⟩)
    · exact step _ .non rfl (fin _ _ rfl rfl ⟨p7, _, rfl, w n7 g7, o0 _ (by decide), _, _, rfl, rfl, rfl⟩)
    · exact step _ .non rfl (fin _ _ rfl rfl rfl)

/-! ### _law_far -/
theorem pow10_lt : ∀ n : Nat, n ≤ 390 → ((10 : Int) ^ n).natAbs < 2 ^ 8000 := fun n h => by
  have h1 : ((10 : Int) ^ n).natAbs = 10 ^ n := by rw [Int.natAbs_pow]; rfl
  rw [h1]
  exact Nat.lt_of_le_of_lt (Nat.pow_le_pow_right (by decide) h) (by decide +kernel)
/-- a great number, not negative -/
def sp_law_far : Sp := fun vs H Q _ => ∃ (p c : Addr), vs = [.ref p] ∧ Sto H p c ∧
  ∀ (t : Int) (H' : Hp), 0 ≤ t → t < 10 ^ 390 → SB p H H' → Sto H' p c → Q (.int t) H'
theorem ok_law_far (T : Txt K mg a d) : FnOk P w K mg base CX0 4 a.law_far d.law_far ["store"] sp_law_far := by
  refine T.F_law_far.ok sc_law_far (fun vs H Q E h => ?_) (fun cdv A outer s H vs Q E hr h => ⟨_, (pss_cons (ps_set (i := 1) sc_law_far.nd rfl (by first | exact Or.inl rfl | exact Or.inr rfl) pe_int)
      (pss_cons (ps_for PassesOwn.never rfl (pi_range1 rfl T.m_range (pa_cons (pe_call (ok_law_edge T) (hr.mono (by omega)) rfl T.g_law_edge T.F_law_edge.kp T.b_law_edge .nil pass0 (pa_cons (pv 0) (pa_cons pe_int (pa_cons pe_int pa_nil)))) pa_nil)) (pg_name (i := 2) sc_law_far.nd rfl (by first | exact Or.inl rfl | exact Or.inr rfl)) (pss_one (ps_set (i := 1) sc_law_far.nd rfl (by first | exact Or.inl rfl | exact Or.inr rfl) (pe_op op_mulG (pv 1) pe_int))))
      (pss_one (ps_ret (pe_call (ok_law_take T) (hr.mono (by omega)) rfl T.g_law_take T.F_law_take.kp T.b_law_take .nil pass0 (pa_cons (pv 0) (pa_cons (pv 1) pa_nil))))))), ?_⟩)
  · obtain ⟨p, c, rfl, _⟩ := h
    rfl
  · obtain ⟨p, c, rfl, S, k⟩ := h
    walk_at "sx"
    refine ⟨_, _, _, _, rfl, S, by decide, fun t H1 _ t1 sb1 S1 => ?_⟩
    have tb := t1 (by decide)
    walk_at "sx"
    refine f_range (fun i σ H' => H' = H1 ∧ i ≤ 389 ∧ ∃ q, σ = [some (.ref p), some (.int (10 ^ (i + 1))), q]) ⟨rfl, by omega, _, rfl⟩ ?_ ?_
    · rintro i σ H' hi ⟨rfl, hi2, q, rfl⟩
      walk_at "sx"
      exact ⟨by omega, _, by rw [Int.pow_succ (10 : Int) (i + 1)]; rfl⟩
    · rintro σ H' ⟨rfl, hi2, q, rfl⟩
      walk_at "sx"
      refine ⟨_, _, _, rfl, S1, pow10_lt _ (by omega), fun t2 H2 t20 t21 t22 sb2 S2 => ?_⟩
      have e1 : (10 : Int) ^ (t.toNat + 1) ≤ 10 ^ 390 := by
        have := Nat.pow_le_pow_right (n := 10) (by decide) (show t.toNat + 1 ≤ 390 by omega)
        exact_mod_cast this
      have e2 : (1 : Int) < 10 ^ (t.toNat + 1) := by
        have := Nat.pow_le_pow_right (n := 10) (by decide) (show 1 ≤ t.toNat + 1 by omega)
        have h2 : (10 : Int) ^ 1 ≤ 10 ^ (t.toNat + 1) := by exact_mod_cast this
        exact Int.lt_of_lt_of_le (by decide) h2
      exact k _ H2 t20 (Int.lt_of_lt_of_le (t22 e2) e1) (sb1.trans sb2) S2

/-! ### _law_not_number -/
/-- no number from lo to hi -/
def NotNum (lo hi : Int) (d : D) : Prop := (∃ i, d = .int i ∧ (i < lo ∨ hi < i)) ∨ d ∈ odds
def sp_law_not_number : Sp := fun vs H Q _ => ∃ (p c : Addr) (lo hi : Int), vs = [.ref p, .int lo, .int hi] ∧ Sto H p c ∧
  ∀ (v : V) (d : D) (H' : Hp), NotNum lo hi d → Dv (wo p H') v d → SB p H H' → Sto H' p c → Q v H'
theorem ok_law_not_number (T : Txt K mg a d) : FnOk P w K mg base CX0 5 a.law_not_number d.law_not_number ["store", "low", "high"] sp_law_not_number := by
  refine T.F_law_not_number.ok sc_law_not_number (fun vs H Q E h => ?_) (fun cdv A outer s H vs Q E hr h => ⟨_, (pss_cons (ps_set (i := 3) sc_law_not_number.nd rfl (by first | exact Or.inl rfl | exact Or.inr rfl) (pe_call (ok_law_take T) (hr.mono (by omega)) rfl T.g_law_take T.F_law_take.kp T.b_law_take .nil pass0 (pa_cons (pv 0) (pa_cons pe_int pa_nil))))
      (pss_cons (ps_if (pt_cmpR op_lt (pv 3) pe_int (nomark _)) (pss_one (ps_ret (pe_op op_sub (pv 1) pe_int))) pss_nil)
      (pss_cons (ps_if (pt_cmpR op_lt (pv 3) pe_int (nomark _)) (pss_one (ps_ret (pe_op (k_add K) (pv 2) pe_int))) pss_nil)
      (pss_cons (ps_if (pt_cmpR (k_eq K hr.units) (pv 3) pe_int (nomark _)) (pss_one (ps_ret (pe_op (k_add K) (pe_op (k_add K) (pe_callB (call_max2' rfl) (by rfl) T.m_max bt_max (pa_cons (pv 2) (pa_cons (pv 1) pa_nil))) pe_int) (pe_call (ok_law_take T) (hr.mono (by omega)) rfl T.g_law_take T.F_law_take.kp T.b_law_take .nil pass0 (pa_cons (pv 0) (pa_cons pe_int pa_nil)))))) pss_nil)
      (pss_cons (ps_if (pt_cmpR (k_eq K hr.units) (pv 3) pe_int (nomark _)) (pss_cons (ps_set (i := 4) sc_law_not_number.nd rfl (by first | exact Or.inl rfl | exact Or.inr rfl) (pe_call (ok_law_far T) (hr.mono (by omega)) rfl T.g_law_far T.F_law_far.kp T.b_law_far .nil pass0 (pa_cons (pv 0) pa_nil)))
      (pss_cons (ps_if (pt_cmpR (k_eq K hr.units) (pe_call (ok_law_take T) (hr.mono (by omega)) rfl T.g_law_take T.F_law_take.kp T.b_law_take .nil pass0 (pa_cons (pv 0) (pa_cons pe_int pa_nil))) pe_int (nomark _)) (pss_one (ps_ret (pe_op (k_add K) (pe_op (k_add K) (pe_callB (call_max2' rfl) (by rfl) T.m_max bt_max (pa_cons (pv 2) (pa_cons (pv 1) pa_nil))) pe_int) (pv 4)))) pss_nil)
      (pss_one (ps_ret (pe_op op_sub (pe_op op_sub (pe_callB (call_min2' rfl) (by rfl) T.m_min bt_min (pa_cons (pv 2) (pa_cons (pv 1) pa_nil))) pe_int) (pv 4)))))) pss_nil)
      (pss_one (ps_ret (pe_call (ok_law_odd T) (hr.mono (by omega)) rfl T.g_law_odd T.F_law_odd.kp T.b_law_odd .nil pass0 (pa_cons (pv 0) pa_nil))))))))), ?_⟩)
  · obtain ⟨p, c, lo, hi, rfl, _⟩ := h
    rfl
  · obtain ⟨p, c, lo, hi, rfl, S, k⟩ := h
    have ki : ∀ (i : Int) (H' : Hp), (i < lo ∨ hi < i) → SB p H H' → Sto H' p c → Q (.int i) H' := fun i H' h sb s => k _ (.int i) H' (.inl ⟨i, rfl, h⟩) rfl sb s
    walk_at "sx"
    refine ⟨_, _, _, rfl, S, by decide, fun t H1 t0 _ t1 sb1 S1 => ?_⟩
    walk_at "sx"
    refine if_d (fun h1 => ?_) (fun h1 => ?_)
    · walk_at "sx"
      exact ki _ _ (by omega) sb1 S1
    · walk_at "sx"
      refine if_d (fun h2 => ?_) (fun h2 => ?_)
      · walk_at "sx"
        exact ki _ _ (by omega) sb1 S1
      · walk_at "sx"
        refine if_d (fun h3 => ?_) (fun h3 => ?_)
        · walk_at "sx"
          refine ⟨_, _, _, rfl, S1, by decide, fun t2 H2 t20 _ t21 sb2 S2 => ?_⟩
          walk_at "sx"
          refine ki _ _ (.inr ?_) (sb1.trans sb2) S2
          split <;> omega
        · walk_at "sx"
          refine if_d (fun h4 => ?_) (fun h4 => ?_)
          · walk_at "sx"
            refine ⟨_, _, rfl, S1, fun f H2 f0 _ sb2 S2 => ?_⟩
            walk_at "sx"
            refine ⟨_, _, _, rfl, S2, by decide, fun t3 H3 t30 _ t31 sb3 S3 => ?_⟩
            walk_at "sx"
            refine if_d (fun h5 => ?_) (fun h5 => ?_)
            · walk_at "sx"
              refine ki _ _ (.inr ?_) ((sb1.trans sb2).trans sb3) S3
              split <;> omega
            · walk_at "sx"
              refine ki _ _ (.inl ?_) ((sb1.trans sb2).trans sb3) S3
              split <;> omega
          · walk_at "sx"
            refine ⟨_, _, rfl, S1, fun v d H2 hd hv sb2 S2 => ?_⟩
            walk_at "sx"
            exact k v d H2 (.inr hd) hv (sb1.trans sb2) S2

/-! ### _law_not_sequence -/
/-- values that are no sequences -/
def noSeqs : List D := [.non, .int 0, .int 1, .int (-1), .bl true, .bl false, .str "", .str "ab", .dic [], .dic [(.inl 0, .int 1)], .dic [(.inr "0", .lst [.int 0])], .str "0 1"]
def sp_law_not_sequence : Sp := fun vs H Q _ => ∃ (p c : Addr), vs = [.ref p] ∧ Sto H p c ∧
  ∀ (v : V) (d : D) (H' : Hp), d ∈ noSeqs → Dv (wo p H') v d → SB p H H' → Sto H' p c → Q v H'
theorem ok_law_not_sequence (T : Txt K mg a d) : FnOk P w K mg base CX0 3 a.law_not_sequence d.law_not_sequence ["store"] sp_law_not_sequence := by
  refine T.F_law_not_sequence.ok sc_law_not_sequence (fun vs H Q E h => ?_) (fun cdv A outer s H vs Q E hr h => ⟨_, (pss_cons (ps_set (i := 1) sc_law_not_sequence.nd rfl (by first | exact Or.inl rfl | exact Or.inr rfl) (pe_lst (pa_cons pe_non (pa_cons pe_int (pa_cons pe_int (pa_cons (pe_un un_neg pe_int) (pa_cons pe_bl (pa_cons pe_bl (pa_cons pe_str (pa_cons pe_str (pa_cons pe_dnewK (pa_cons (pe_disp (pps_cons pe_int pe_int pps_nil) (by rfl) (by rfl) (fun z => by cases z) (by decide)) (pa_cons (pe_disp (pps_cons pe_str (pe_lst (pa_cons pe_int pa_nil)) pps_nil) (by rfl) (by rfl) (fun z => by cases z) (by decide)) (pa_cons pe_str pa_nil))))))))))))))
      (pss_one (ps_ret (pe_ix (k_ix K) (pv 1) (pe_call (ok_law_take T) (hr.mono (by omega)) rfl T.g_law_take T.F_law_take.kp T.b_law_take .nil pass0 (pa_cons (pv 0) (pa_cons (pe_callB (k_len K) (by rfl) T.m_len bt_len (pa_cons (pv 1) pa_nil)) pa_nil))) (fun _ _ => rfl))))), ?_⟩)
  · obtain ⟨p, c, rfl, _⟩ := h
    rfl
  · obtain ⟨p, c, rfl, S, k⟩ := h
    walk_at "sx"
    rename_i p1 h1 p2 h2 p3 h3 p4 h4 p5 h5
    generalize hG : upd _ p5 _ = G
    have sG : Same H G := by rw [← hG]; walk_at "sames"
    have np : ∀ {b : Addr} {H1 : Hp}, Same H H1 → H1 b = none → b ≠ p := fun s e z => by
      obtain ⟨cells, at', bank, mx, cnt, hp, _⟩ := S
      rw [z, s _ _ hp] at e
      cases e
    have g1 : G p1 = some (.dK []) := by rw [← hG]; walk_at "look"
    have g2 : G p2 = some (.dK [(.inl 0, .int 1)]) := by rw [← hG]; walk_at "look"
    have g3 : G p3 = some (.dK [(.inr "0", .ref p4)]) := by rw [← hG]; walk_at "look"
    have g4 : G p4 = some (.lst [.int 0]) := by rw [← hG]; walk_at "look"
    have g5 : G p5 = some (.lst [.non, .int 0, .int 1, .int (-1), .bl true, .bl false, .str "", .str "ab", .ref p1, .ref p2, .ref p3, .str "0 1"]) := by rw [← hG]; walk_at "look"
    have n1 : p1 ≠ p := np (by walk_at "sames") h1
    have n2 : p2 ≠ p := np (by walk_at "sames") h2
    have n3 : p3 ≠ p := np (by walk_at "sames") h3
    have n4 : p4 ≠ p := np (by walk_at "sames") h4
    have n5 : p5 ≠ p := np (by walk_at "sames") h5
    clear hG h1 h2 h3 h4 h5
    refine ⟨_, _, _, rfl, S.keep sG, by show (12 : Int).natAbs < 2 ^ 8000; decide, fun t H1 t0 _ t1 sb1 S1 => ?_⟩
    have tb : t < 12 := t1 (by show (1 : Int) < 12; decide)
    have sb : SB p H H1 := (SB.of sG).trans sb1
    have w : ∀ {b : Addr} {o : HO}, b ≠ p → G b = some o → wo p H1 b = some o := fun n e => wo_at (sb1 _ _ n e) n
    have o0 : ∀ n : Nat, n ≤ 100 → n ≤ sizeLine := fun n h => Nat.le_trans h (by decide)
    have fin : ∀ (v : V) (d : D), noSeqs[t.toNat]? = some d → Dv (wo p H1) v d → Q v H1 := fun v d e2 q => k v d H1 (List.mem_of_getElem? e2) q sb S1
    have step : ∀ (v : V), [V.non, .int 0, .int 1, .int (-1), .bl true, .bl false, .str "", .str "ab", .ref p1, .ref p2, .ref p3, .str "0 1"][t.toNat]? = some v → Q v H1 → rIx K (.ref p5) (.int t) H1 Q := fun v e q => by
      refine r_ixL' (sb1 _ _ n5 g5) ?_ q
      have := atI_nat e
      rwa [Int.toNat_of_nonneg t0] at this
    have ht : t = 0 ∨ t = 1 ∨ t = 2 ∨ t = 3 ∨ t = 4 ∨ t = 5 ∨ t = 6 ∨ t = 7 ∨ t = 8 ∨ t = 9 ∨ t = 10 ∨ t = 11 := by omega
    rcases ht with rfl | rfl | rfl | rfl | rfl | rfl | rfl | rfl | rfl | rfl | rfl | rfl
    · exact step _ rfl (fin _ _ rfl rfl)
    · exact step _ rfl (fin _ _ rfl rfl)
    · exact step _ rfl (fin _ _ rfl rfl)
    · exact step _ rfl (fin _ _ rfl rfl)
    · exact step _ rfl (fin _ _ rfl rfl)
    · exact step _ rfl (fin _ _ rfl rfl)
    · exact step _ rfl (fin _ _ rfl rfl)
    · exact step _ rfl (fin _ _ rfl rfl)
    · exact step _ rfl (fin _ _ rfl ⟨p1, _, rfl, w n1 g1, o0 _ (by decide), rfl⟩)
    · exact step _ rfl (fin _ _ rfl ⟨p2, _, rfl, w n2 g2, o0 _ (by show 1 ≤ 100; decide), _, _, rfl, rfl, rfl⟩)
    · exact step _ rfl (fin _ _ rfl ⟨p3, _, rfl, w n3 g3, o0 _ (by show 1 ≤ 100; decide), _, _, rfl, ⟨p4, _, rfl, w n4 g4, o0 _ (by decide), _, _, rfl, rfl, rfl⟩, rfl⟩)
    · exact step _ rfl (fin _ _ rfl rfl)

/-! ### _law_is_integer -/
/-- an int that is no bool -/
def sp_law_is_integer : Sp := fun vs H Q _ => ∃ (v : V) (d : D), vs = [v] ∧ Dv H v d ∧ Q (.bl d.isInt) H
theorem ok_law_is_integer (T : Txt K mg a d) : FnOk P w K mg base CX0 1 a.law_is_integer d.law_is_integer ["value"] sp_law_is_integer := by
  refine T.F_law_is_integer.ok sc_law_is_integer (fun vs H Q E h => ?_) (fun cdv A outer s H vs Q E hr h => ⟨_, (pss_one (ps_ret (pe_and (pe_callB (k_isi K) (by rfl) T.m_isinstance bt_isinstance (pa_cons (pv 0) (pa_cons (pe_bltn (v := .ty "int") rfl T.m_int bt_int rfl) pa_nil))) (pe_one (pe_not (pe_callB (k_isi K) (by rfl) T.m_isinstance bt_isinstance (pa_cons (pv 0) (pa_cons (pe_bltn (v := .ty "bool") rfl T.m_bool bt_bool rfl) pa_nil)))))))), ?_⟩)
  · obtain ⟨v, d, rfl, _⟩ := h
    rfl
  · obtain ⟨v, d, rfl, hd, k⟩ := h
    cases d <;> walk_at "sx" <;> exact k

/-! ### _law_same -/
--@level 10
--@arg 8
--@hint list(told.keys()) => =(pe_listKeys rfl (pv 0) T.m_list)
--@hint list(due.keys()) => =(pe_listKeys rfl (pv 1) T.m_list)
--@hint list(told.values()) => =(pe_listValues rfl (pv 0) T.m_list)
--@hint list(due.values()) => =(pe_listValues rfl (pv 1) T.m_list)
--@used m list
/-- two values that are alike: True -/
def sp_law_same (n : Nat) : Sp := fun vs H Q _ => ∃ (t u : V) (d : D), vs = [t, u] ∧ Dv H t d ∧ Dv H u d ∧ d.depth < n ∧ ∀ H', Same H H' → Q (.bl true) H'
theorem ok_law_same (T : Txt K mg a d) : ∀ n : Nat, FnOk P w K mg base CX0 (n + 2) a.law_same d.law_same ["told", "due"] (sp_law_same n)
  | 0 => by
    refine FnOk.mono (T.F_law_same.ok (k := 1) sc_law_same (fun vs H Q E h => ?_) (fun cdv A outer s H vs Q E hr h => ?_)) (Nat.le_refl _)
    all_goals
      obtain ⟨t, u, d, _, _, _, h, _⟩ := h
      exact absurd h (Nat.not_lt_zero _)
  | n + 1 => by
    have IH := ok_law_same T n
    refine T.F_law_same.ok sc_law_same (fun vs H Q E h => ?_) (fun cdv A outer s H vs Q E hr h => ⟨_, (pss_cons (ps_if (pt_cmpR op_isN (pv 1) pe_non (nomark _)) (pss_one (ps_ret (pe_cmpR op_isN (pv 0) pe_non (nomark _)))) pss_nil)
      (pss_cons (ps_if (pt_val (pe_callB (k_isi K) (by rfl) T.m_isinstance bt_isinstance (pa_cons (pv 1) (pa_cons (pe_bltn (v := .ty "bool") rfl T.m_bool bt_bool rfl) pa_nil)))) (pss_one (ps_ret (pe_and (pe_callB (k_isi K) (by rfl) T.m_isinstance bt_isinstance (pa_cons (pv 0) (pa_cons (pe_bltn (v := .ty "bool") rfl T.m_bool bt_bool rfl) pa_nil))) (pe_one (pe_cmpR (k_eq K hr.units) (pv 0) (pv 1) (nomark _)))))) pss_nil)
      (pss_cons (ps_if (pt_val (pe_callB (k_isi K) (by rfl) T.m_isinstance bt_isinstance (pa_cons (pv 1) (pa_cons (pe_bltn (v := .ty "int") rfl T.m_int bt_int rfl) pa_nil)))) (pss_one (ps_ret (pe_and (pe_call (ok_law_is_integer T) (hr.mono (by omega)) rfl T.g_law_is_integer T.F_law_is_integer.kp T.b_law_is_integer .nil pass0 (pa_cons (pv 0) pa_nil)) (pe_one (pe_cmpR (k_eq K hr.units) (pv 0) (pv 1) (nomark _)))))) pss_nil)
      (pss_cons (ps_if (pt_val (pe_callB (k_isi K) (by rfl) T.m_isinstance bt_isinstance (pa_cons (pv 1) (pa_cons (pe_bltn (v := .ty "str") rfl T.m_str bt_str rfl) pa_nil)))) (pss_one (ps_ret (pe_and (pe_callB (k_isi K) (by rfl) T.m_isinstance bt_isinstance (pa_cons (pv 0) (pa_cons (pe_bltn (v := .ty "str") rfl T.m_str bt_str rfl) pa_nil))) (pe_one (pe_cmpR (k_eq K hr.units) (pv 0) (pv 1) (nomark _)))))) pss_nil)
      (pss_cons (ps_if (pt_val (pe_callB (k_isi K) (by rfl) T.m_isinstance bt_isinstance (pa_cons (pv 1) (pa_cons (pe_bltn (v := .ty "dict") rfl T.m_dict bt_dict rfl) pa_nil)))) (pss_cons (ps_if (PW.pt (pw_or (pt_not (pt_val (pe_callB (k_isi K) (by rfl) T.m_isinstance bt_isinstance (pa_cons (pv 0) (pa_cons (pe_bltn (v := .ty "dict") rfl T.m_dict bt_dict rfl) pa_nil))))) (pw_or1 (pt_not (pt_val (pe_call IH (hr.mono (by omega)) rfl T.g_law_same T.F_law_same.kp T.b_law_same .nil pass0 (pa_cons (pe_listKeys rfl (pv 0) T.m_list) (pa_cons (pe_listKeys rfl (pv 1) T.m_list) pa_nil)))))))) (pss_one (ps_ret pe_bl)) pss_nil)
      (pss_one (ps_ret (pe_call IH (hr.mono (by omega)) rfl T.g_law_same T.F_law_same.kp T.b_law_same .nil pass0 (pa_cons (pe_listValues rfl (pv 0) T.m_list) (pa_cons (pe_listValues rfl (pv 1) T.m_list) pa_nil)))))) pss_nil)
      (pss_cons (ps_if (pt_val (pe_callB (k_isi K) (by rfl) T.m_isinstance bt_isinstance (pa_cons (pv 1) (pa_cons (pe_bltn (v := .ty "list") rfl T.m_list bt_list rfl) pa_nil)))) (pss_one (ps_if (PW.pt (pw_or (pt_not (pt_val (pe_callB (k_isi K) (by rfl) T.m_isinstance bt_isinstance (pa_cons (pv 0) (pa_cons (pe_bltn (v := .ty "list") rfl T.m_list bt_list rfl) pa_nil))))) (pw_or1 (pt_cmpR (k_ne K hr.units) (pe_callB (k_len K) (by rfl) T.m_len bt_len (pa_cons (pv 0) pa_nil)) (pe_callB (k_len K) (by rfl) T.m_len bt_len (pa_cons (pv 1) pa_nil)) (nomark _))))) (pss_one (ps_ret pe_bl)) pss_nil)) (pss_one (ps_if (PW.pt (pw_or (pt_not (pt_val (pe_callB (k_isi K) (by rfl) T.m_isinstance bt_isinstance (pa_cons (pv 1) (pa_cons (pe_bltn (v := .ty "tuple") rfl T.m_tuple bt_tuple rfl) pa_nil))))) (pw_or (pt_not (pt_val (pe_callB (k_isi K) (by rfl) T.m_isinstance bt_isinstance (pa_cons (pv 0) (pa_cons (pe_bltn (v := .ty "tuple") rfl T.m_tuple bt_tuple rfl) pa_nil))))) (pw_or1 (pt_cmpR (k_ne K hr.units) (pe_callB (k_len K) (by rfl) T.m_len bt_len (pa_cons (pv 0) pa_nil)) (pe_callB (k_len K) (by rfl) T.m_len bt_len (pa_cons (pv 1) pa_nil)) (nomark _)))))) (pss_one (ps_ret pe_bl)) pss_nil)))
      (pss_cons (ps_for PassesOwn.never rfl (pi_range1 rfl T.m_range (pa_cons (pe_callB (k_len K) (by rfl) T.m_len bt_len (pa_cons (pv 1) pa_nil)) pa_nil)) (pg_name (i := 2) sc_law_same.nd rfl (by first | exact Or.inl rfl | exact Or.inr rfl)) (pss_one (ps_if (pt_not (pt_val (pe_call IH (hr.mono (by omega)) rfl T.g_law_same T.F_law_same.kp T.b_law_same .nil pass0 (pa_cons (pe_ix (k_ix K) (pv 0) (pv 2) (fun _ _ => rfl)) (pa_cons (pe_ix (k_ix K) (pv 1) (pv 2) (fun _ _ => rfl)) pa_nil))))) (pss_one (ps_ret pe_bl)) pss_nil)))
      (pss_one (ps_ret pe_bl))))))))), ?_⟩)
    · obtain ⟨t, u, d, rfl, _⟩ := h
      rfl
    · obtain ⟨t, u, d, rfl, ht, hu, hn, k⟩ := h
      cases d with
      | non =>
        obtain rfl : t = .non := id ht
        obtain rfl : u = .non := id hu
        walk_at "sx"
        exact k H (Same.refl H)
      | bl b =>
        obtain rfl : t = .bl b := id ht
        obtain rfl : u = .bl b := id hu
        walk_at "sx"
        rw [decide_eq_true rfl]
        exact k H (Same.refl H)
      | int i =>
        obtain rfl : t = .int i := id ht
        obtain rfl : u = .int i := id hu
        walk_at "sx"
        refine ⟨_, .int i, rfl, rfl, ?_⟩
        walk_at "sx"
        rw [decide_eq_true rfl]
        exact k H (Same.refl H)
      | str x =>
        obtain rfl : t = .str x := id ht
        obtain rfl : u = .str x := id hu
        walk_at "sx"
        rw [decide_eq_true rfl]
        exact k H (Same.refl H)
      | lst ds =>
        obtain ⟨p, vs, rfl, hp, hl, hv⟩ := id ht
        obtain ⟨q, ws, rfl, hq, hm, hw⟩ := id hu
        walk_at "sx"
        have e1 : vs.length = ws.length := by rw [DvL.length hv, DvL.length hw]
        refine if_f (by rw [e1]; simp) ?_
        walk_at "sx"
        have hz : (ws.length : Int) < 2 ^ 62 := by
          have := Nat.lt_of_le_of_lt hm (show sizeLine < 2 ^ 62 by decide)
          omega
        refine i_rng1' ⟨by omega, hz⟩ ?_
        refine f_range (fun i σ H' => Same H H' ∧ ∃ z, σ = [some (.ref p), some (.ref q), z]) ⟨by walk_at "sames", _, rfl⟩ ?_ ?_
        · rintro i σ H' hi ⟨sH, z, rfl⟩
          have hi2 : i < ds.length := by rw [← DvL.length hw]; simpa using hi
          obtain ⟨x, hx1, hx2⟩ := DvL.get hv (i := i) (List.getElem?_eq_getElem hi2)
          obtain ⟨y, hy1, hy2⟩ := DvL.get hw (i := i) (List.getElem?_eq_getElem hi2)
          have hx3 : atI vs (0 + (i : Int)) = some x := by rw [Int.zero_add]; exact atI_nat hx1
          have hy3 : atI ws (0 + (i : Int)) = some y := by rw [Int.zero_add]; exact atI_nat hy1
          walk_at "sx"
          refine r_ixL' (sH _ _ hp) hx3 ?_
          walk_at "sx"
          refine r_ixL' (sH _ _ hq) hy3 ?_
          walk_at "sx"
          have hd := depth_get (ds := ds) (i := i) (List.getElem?_eq_getElem hi2)
          have hn2 : 1 + D.depth.go ds < n + 1 := hn
          refine ⟨_, _, ds[i], rfl, hx2.mono sH, hy2.mono sH, by omega, fun H2 s2 => ?_⟩
          walk_at "sx"
          exact ⟨sH.trans s2, _, rfl⟩
        · rintro σ H' ⟨sH, z, rfl⟩
          walk_at "sx"
          exact k H' sH
      | tup ds =>
        obtain ⟨p, vs, rfl, hp, hl, hv⟩ := id ht
        obtain ⟨q, ws, rfl, hq, hm, hw⟩ := id hu
        walk_at "sx"
        have e1 : vs.length = ws.length := by rw [DvL.length hv, DvL.length hw]
        refine if_f (by rw [e1]; simp) ?_
        walk_at "sx"
        have hz : (ws.length : Int) < 2 ^ 62 := by
          have := Nat.lt_of_le_of_lt hm (show sizeLine < 2 ^ 62 by decide)
          omega
        refine i_rng1' ⟨by omega, hz⟩ ?_
        refine f_range (fun i σ H' => Same H H' ∧ ∃ z, σ = [some (.ref p), some (.ref q), z]) ⟨by walk_at "sames", _, rfl⟩ ?_ ?_
        · rintro i σ H' hi ⟨sH, z, rfl⟩
          have hi2 : i < ds.length := by rw [← DvL.length hw]; simpa using hi
          obtain ⟨x, hx1, hx2⟩ := DvL.get hv (i := i) (List.getElem?_eq_getElem hi2)
          obtain ⟨y, hy1, hy2⟩ := DvL.get hw (i := i) (List.getElem?_eq_getElem hi2)
          have hx3 : atI vs (0 + (i : Int)) = some x := by rw [Int.zero_add]; exact atI_nat hx1
          have hy3 : atI ws (0 + (i : Int)) = some y := by rw [Int.zero_add]; exact atI_nat hy1
          walk_at "sx"
          refine r_ixT' (sH _ _ hp) hx3 ?_
          walk_at "sx"
          refine r_ixT' (sH _ _ hq) hy3 ?_
          walk_at "sx"
          have hd := depth_get (ds := ds) (i := i) (List.getElem?_eq_getElem hi2)
          have hn2 : 1 + D.depth.go ds < n + 1 := hn
          refine ⟨_, _, ds[i], rfl, hx2.mono sH, hy2.mono sH, by omega, fun H2 s2 => ?_⟩
          walk_at "sx"
          exact ⟨sH.trans s2, _, rfl⟩
        · rintro σ H' ⟨sH, z, rfl⟩
          walk_at "sx"
          exact k H' sH
      | dic ps =>
        obtain ⟨p, vs, rfl, hp, hl, hv⟩ := id ht
        obtain ⟨q, ws, rfl, hq, hm, hw⟩ := id hu
        have hn2 : 2 + D.depth.goK ps < n + 1 := hn
        walk_at "sx"
        refine e_lk (σ := []) hp (all_new fun l1 h1 => ?_)
        walk_at "sx"
        refine e_lk (σ := []) (by walk_at "look") (all_new fun l2 h2 => ?_)
        walk_at "sx"
        have sA : Same H (upd (upd H l1 (.lst (vs.map fun kv => kV kv.1))) l2 (.lst (ws.map fun kv => kV kv.1))) := by walk_at "sames"
        refine ⟨_, _, .lst (ps.map fun kd => kD kd.1), rfl, ⟨l1, _, rfl, by walk_at "look", by rw [List.length_map]; exact hl, DvL.mono sA (DvK.keys hv)⟩, ⟨l2, _, rfl, by walk_at "look", by rw [List.length_map]; exact hm, DvL.mono sA (DvK.keys hw)⟩, ?_, fun H2 s2 => ?_⟩
        · show 1 + D.depth.go (ps.map fun kd => kD kd.1) < n
          rw [depth_keys]
          omega
        · have sB := sA.trans s2
          walk_at "sx"
          refine e_lv (σ := []) (sB _ _ hp) (all_new fun l3 h3 => ?_)
          walk_at "sx"
          refine e_lv (σ := []) (by walk_at "look") (all_new fun l4 h4 => ?_)
          walk_at "sx"
          have sC : Same H (upd (upd H2 l3 (.lst (vs.map fun kv => kv.2))) l4 (.lst (ws.map fun kv => kv.2))) := by walk_at "sames"
          refine ⟨_, _, .lst (ps.map fun kd => kd.2), rfl, ⟨l3, _, rfl, by walk_at "look", by rw [List.length_map]; exact hl, DvL.mono sC (DvK.vals hv)⟩, ⟨l4, _, rfl, by walk_at "look", by rw [List.length_map]; exact hm, DvL.mono sC (DvK.vals hw)⟩, ?_, fun H3 s3 => ?_⟩
          · show 1 + D.depth.go (ps.map fun kd => kd.2) < n
            rw [depth_vals]
            omega
          · exact k H3 (sC.trans s3)

/-! ### _law_answer -/
--@used g HueError
def badW (d : D) : D := .tup [.str "BadWalk", d, .bl true]
def sp_law_answer (K : PySem.W.Frag) : Sp := fun vs H Q _ => ∃ (x y : V) (dy : D), vs = [x, y] ∧ Dv H y dy ∧
  (((∀ H', Same H H' → SeqIs K H' x false) ∧ ∀ r H', Same H H' → Dv H' r (badW .non) → Q r H') ∨
   ∃ (p : Addr) (xs : List V) (ds : List D), x = .ref p ∧ SeqAt' H p xs ∧ xs.length ≤ 3000 ∧ DvL H xs ds ∧
    ((∃ (i : Nat) (b : D), ds[i]? = some b ∧ b.isInt = false ∧ (∀ j c, j < i → ds[j]? = some c → c.isInt = true) ∧ ∀ r H', Same H H' → Dv H' r (badW (.int i)) → Q r H') ∨
     ((∀ (j : Nat) c, ds[j]? = some c → c.isInt = true) ∧
       (dy.inR 2 6 = false → ∀ r H', Same H H' → Dv H' r (.tup [.str "BadNumber", .non, .bl true]) → Q r H') ∧
       (∀ s : Nat, dy = .int s → 2 ≤ s → s ≤ 6 → ∀ r q H', H r = none → H q = none → Same H H' → H' r = some (.tup [.str "good", .ref q]) → Dv H' (.ref q) (.lst (winD s ds)) → Q (.ref r) H'))))
theorem ok_law_answer (T : Txt K mg a d) : FnOk P w K mg base CX0 6 a.law_answer d.law_answer ["row", "span"] (sp_law_answer K) := by
  refine T.F_law_answer.ok sc_law_answer (fun vs H Q E h => ?_) (fun cdv A outer s H vs Q E hr h => ⟨_, (pss_cons (ps_try_cls rfl rfl takes0 (fun W pn xe tk _ => (pss_one (ps_set (i := 3) sc_law_answer.nd rfl (by first | exact Or.inl rfl | exact Or.inr rfl) (pe_callS (ok_windows T) (hr.mono (by omega)) rfl T.g_windows T.F_windows.kp T.b_windows (fun σ => passAt tk σ) (pa_cons (pv 0) (pa_cons (pv 1) pa_nil))))))
      (ClsOk.consAs (i := 2) sc_law_answer.nd rfl rfl ⟨rfl, by decide, .inl T.g_BadWalk⟩ (fun ea eo ec ed pn hz hf => (pss_one (ps_ret (pe_tup (pa_cons pe_str (pa_cons (pe_xf T.e_BadWalk.xf T.nf_BadWalk_bad_at hz hf (pv 2)) (pa_cons (pe_and (pe_callB (k_isX K hz hf) (by rfl) T.m_isinstance bt_isinstance (pa_cons (pv 2) (pa_cons (pe_bltn (v := .ty "ValueError") rfl T.m_ValueError bt_VE rfl) pa_nil))) (pe_one (pe_not (pe_callB (k_isX K hz hf) (by rfl) T.m_isinstance bt_isinstance (pa_cons (pv 2) (pa_cons (pe_glob (v := .ref a.BadNumber) rfl T.g_BadNumber rfl) pa_nil)))))) pa_nil)))))))
      (ClsOk.consAs (i := 2) sc_law_answer.nd rfl rfl ⟨rfl, by decide, .inl T.g_BadNumber⟩ (fun ea eo ec ed pn hz hf => (pss_one (ps_ret (pe_tup (pa_cons pe_str (pa_cons pe_non (pa_cons (pe_and (pe_callB (k_isX K hz hf) (by rfl) T.m_isinstance bt_isinstance (pa_cons (pv 2) (pa_cons (pe_bltn (v := .ty "ValueError") rfl T.m_ValueError bt_VE rfl) pa_nil))) (pe_one (pe_not (pe_callB (k_isX K hz hf) (by rfl) T.m_isinstance bt_isinstance (pa_cons (pv 2) (pa_cons (pe_glob (v := .ref a.BadWalk) rfl T.g_BadWalk rfl) pa_nil)))))) pa_nil)))))))
      (ClsOk.cons ⟨rfl, by decide, .inl T.g_HueError⟩ (fun ea eo ec ed pn hz hf => (pss_one (ps_ret (pe_tup (pa_cons pe_str (pa_cons pe_non (pa_cons pe_bl pa_nil)))))))
      ClsOk.nil))))
      (pss_one (ps_ret (pe_tup (pa_cons pe_str (pa_cons (pv 3) pa_nil)))))), ?_⟩)
  · obtain ⟨x, y, dy, rfl, _⟩ := h
    rfl
  · obtain ⟨x, y, dy, rfl, hy, hc⟩ := h
    walk_at "sx"
    refine ⟨x, y, dy, rfl, hy, ?_⟩
    rcases hc with ⟨hx, k⟩ | ⟨p, xs, ds, rfl, hp, hl, hds, hc⟩
    · refine .inl ⟨hx, fun d H1 hd s1 h1 => ?_⟩
      refine w_hitAs T.exm_BadWalk_BadWalk fun ea hea => ?_
      walk_at "sx"
      refine r_isX T.e_BadWalk ⟨_, h1⟩ (.ty _) T.kv_BadWalk ?_
      walk_at "sx"
      refine r_isX T.e_BadWalk ⟨_, h1⟩ (.own _) T.kit_BadWalk_BadNumber ?_
      walk_at "sx"
      rename_i q hq
      exact k _ _ (nw_up s1 hq) (tup3 upd_same rfl rfl rfl)
    · have le : xs.length ≤ sizeLine := by
        have : sizeLine = 16777216 := sizeLine_eq
        omega
      refine .inr ⟨p, xs, ds, rfl, hp, hl, hds, ?_⟩
      rcases hc with ⟨i, b, h1, h2, h3, k⟩ | ⟨h1, k1, k2⟩
      · refine .inl ⟨i, b, h1, h2, h3, fun d H1 hd s1 h1 => ?_⟩
        refine w_hitAs T.exm_BadWalk_BadWalk fun ea hea => ?_
        walk_at "sx"
        refine r_isX T.e_BadWalk ⟨_, h1⟩ (.ty _) T.kv_BadWalk ?_
        walk_at "sx"
        refine r_isX T.e_BadWalk ⟨_, h1⟩ (.own _) T.kit_BadWalk_BadNumber ?_
        walk_at "sx"
        rename_i q hq
        exact k _ _ (nw_up s1 hq) (tup3 upd_same rfl rfl rfl)
      · refine .inr ⟨h1, fun e H1 s1 => ?_, fun s e1 e2 e3 q H1 hq s1 hv => ?_⟩
        · refine w_miss T.exm_BadNumber_BadWalk (w_hitAs T.exm_BadNumber_BadNumber fun ea hea => ?_)
          walk_at "sx"
          refine r_isX T.e_BadNumber trivial (.ty _) T.kv_BadNumber ?_
          walk_at "sx"
          refine r_isX T.e_BadNumber trivial (.own _) T.kit_BadNumber_BadWalk ?_
          walk_at "sx"
          rename_i q hq
          exact k1 e _ _ (nw_up s1 hq) (tup3 upd_same rfl rfl rfl)
        · walk_at "sx"
          rename_i r hr'
          exact k2 s e1 e2 e3 r q _ (s1.free hr') hq (nw_up s1 hr') upd_same (nw_dv hr' hv)

/-! ### _law_members -/
/-- members: a new list of integers -/
def sp_law_members : Sp := fun vs H Q _ => ∃ (p c : Addr), vs = [.ref p] ∧ Sto H p c ∧
  ∀ (q : Addr) (ns : List Int) (H' : Hp), H q = none → H' q = some (.lst (ns.map V.int)) → ns.length ≤ 2000 → SB p H H' → Sto H' p c → Q (.ref q) H'
theorem ok_law_members (T : Txt K mg a d) : FnOk P w K mg base CX0 5 a.law_members d.law_members ["store"] sp_law_members := by
  refine T.F_law_members.ok sc_law_members (fun vs H Q E h => ?_) (fun cdv A outer s H vs Q E hr h => ⟨_, (pss_cons (ps_set (i := 1) sc_law_members.nd rfl (by first | exact Or.inl rfl | exact Or.inr rfl) (pe_call (ok_law_take T) (hr.mono (by omega)) rfl T.g_law_take T.F_law_take.kp T.b_law_take .nil pass0 (pa_cons (pv 0) (pa_cons pe_int pa_nil))))
      (pss_cons (ps_if (pt_cmpR (k_eq K hr.units) (pv 1) pe_int (nomark _)) (pss_cons (ps_set (i := 3) sc_law_members.nd rfl (by first | exact Or.inl rfl | exact Or.inr rfl) (pe_op (k_add K) pe_int (pe_call (ok_law_take T) (hr.mono (by omega)) rfl T.g_law_take T.F_law_take.kp T.b_law_take .nil pass0 (pa_cons (pv 0) (pa_cons pe_int pa_nil)))))
      (pss_one (ps_ret (pe_lc (own := [("k", 5)]) (g := gName 5) (tt := tYes) rfl sc_law_members.nd (pi_range1 rfl T.m_range (pa_cons pe_int pa_nil)) (blkOk_by (N := ["store", "kind", "size", "step", "one", "k"]) (sc := defScope s_law_members) (by decide +kernel)) (fun _ _ _ _ _ => (pg_name (i := 5) sc_law_members.nd rfl (by first | exact Or.inl rfl | exact Or.inr rfl))) (fun _ _ _ _ _ => pts_nil) (fun _ _ _ _ _ => (pe_op op_sub (pe_op op_mod' (pe_callTy call_int1' (by rfl) T.m_int bt_int (pa_cons (pe_op op_mulG (pv 5) (pv 3)) pa_nil)) pe_int) pe_int)))))) pss_nil)
      (pss_cons (ps_set (i := 2) sc_law_members.nd rfl (by first | exact Or.inl rfl | exact Or.inr rfl) (pe_call (ok_law_edge T) (hr.mono (by omega)) rfl T.g_law_edge T.F_law_edge.kp T.b_law_edge .nil pass0 (pa_cons (pv 0) (pa_cons pe_int (pa_cons pe_int pa_nil)))))
      (pss_cons (ps_if (pt_cmpR op_lt (pv 1) pe_int (nomark _)) (pss_one (ps_set (i := 2) sc_law_members.nd rfl (by first | exact Or.inl rfl | exact Or.inr rfl) (pe_call (ok_law_edge T) (hr.mono (by omega)) rfl T.g_law_edge T.F_law_edge.kp T.b_law_edge .nil pass0 (pa_cons (pv 0) (pa_cons pe_int (pa_cons pe_int pa_nil)))))) pss_nil)
      (pss_cons (ps_if (PW.pt (pw_and (pt_cmpR op_lt (pv 1) pe_int (nomark _)) (pw_and1 (pt_cmpR op_gt (pv 1) pe_int (nomark _))))) (pss_one (ps_ret (pe_lc (own := [("k", 5)]) (g := gName 5) (tt := tYes) rfl sc_law_members.nd (pi_range1 rfl T.m_range (pa_cons (pe_callB (call_min2' rfl) (by rfl) T.m_min bt_min (pa_cons (pv 2) (pa_cons pe_int pa_nil))) pa_nil)) (blkOk_by (N := ["store", "kind", "size", "step", "one", "k"]) (sc := defScope s_law_members) (by decide +kernel)) (fun _ _ _ _ _ => (pg_name (i := 5) sc_law_members.nd rfl (by first | exact Or.inl rfl | exact Or.inr rfl))) (fun _ _ _ _ _ => pts_nil) (fun _ _ _ _ _ => (pe_op op_mulG (pe_call (ok_law_far T) (hr.mono (by omega)) rfl T.g_law_far T.F_law_far.kp T.b_law_far .nil pass0 (pa_cons (pv 0) pa_nil)) (pe_op op_sub pe_int (pe_op op_mulG pe_int (pe_call (ok_law_take T) (hr.mono (by omega)) rfl T.g_law_take T.F_law_take.kp T.b_law_take .nil pass0 (pa_cons (pv 0) (pa_cons pe_int pa_nil)))))))))) pss_nil)
      (pss_one (ps_ret (pe_lc (own := [("one", 4)]) (g := gName 4) (tt := tYes) rfl sc_law_members.nd (kp_list K (pe_call (ok_law_row T) (hr.mono (by omega)) rfl T.g_law_row T.F_law_row.kp T.b_law_row .nil pass0 (pa_cons (pv 0) (pa_cons (pv 2) (pa_cons pe_int pa_nil))))) (blkOk_by (N := ["store", "kind", "size", "step", "one", "k"]) (sc := defScope s_law_members) (by decide +kernel)) (fun _ _ _ _ _ => (pg_name (i := 4) sc_law_members.nd rfl (by first | exact Or.inl rfl | exact Or.inr rfl))) (fun _ _ _ _ _ => pts_nil) (fun _ _ _ _ _ => (pe_op op_sub (pv 4) pe_int)))))))))), ?_⟩)
  · obtain ⟨p, c, rfl, _⟩ := h
    rfl
  · obtain ⟨p, c, rfl, S, k⟩ := h
    walk_at "sx"
    refine ⟨_, _, _, rfl, S, by decide, fun t H1 t0 _ t1 sb1 S1 => ?_⟩
    walk_at "sx"
    refine if_d (fun h1 => ?_) (fun h1 => ?_)
    · walk_at "sx"
      refine ⟨_, _, _, rfl, S1, by decide, fun t2 H2 t20 _ t21 sb2 S2 => ?_⟩
      have tb := t21 (by decide)
      walk_at "sx"
      rename_i L hL
      have np := (S2.ne hL).1
      have nc := (S2.ne hL).2
      have sb3 := sb1.trans sb2
      have hL0 : H L = none := sb3.free np hL
      refine c_range (fun i H' => SB p H H' ∧ Sto H' p c ∧ ∃ ns : List Int, H' L = some (.lst (ns.map V.int)) ∧ ns.length = i) ⟨sb3.new hL, S2.keep (nw_new hL), [], upd_same, rfl⟩ ?_ ?_
      · rintro i H' hi ⟨sb, S3, ns, h4, h5⟩
        walk_at "sx"
        refine ⟨_, h4, by rw [List.length_map]; have : sizeLine = 16777216 := sizeLine_eq; omega, sb.mut hL0, S3.mut np nc, ns ++ [_], by rw [List.map_append]; exact upd_same, by rw [List.length_append, h5]; rfl⟩
      · rintro H' ⟨sb, S3, ns, h4, h5⟩
        exact k L ns H' hL0 h4 (by omega) sb S3
    · have hn : ∀ (ns : List Int) (i : Nat) (y : Int), ns.length = i → (ns ++ [y]).length = i + 1 := fun ns i y h => by rw [List.length_append, h]; rfl
      have zl : sizeLine = 16777216 := sizeLine_eq
      walk_at "sx"
      refine ⟨_, _, _, _, rfl, S1, by decide, fun z H2 _ zb sb2 S2 => ?_⟩
      have zb := zb (by decide)
      walk_at "sx"
      refine if_d (fun h2 => ?_) (fun h2 => ?_)
      · walk_at "sx"
        refine ⟨_, _, _, _, rfl, S2, by decide, fun z2 H3 _ zb2 sb3 S3 => ?_⟩
        have zb2 := zb2 (by decide)
        walk_at "sx"
        refine ⟨_, _, _, _, rfl, S3, by omega, by decide, fun q0 nz H4 f0 h0 l0 _ _ sb4 S4 => ?_⟩
        have nq := S3.ne f0
        walk_at "sx"
        rename_i L hL
        have np := (S4.ne hL).1
        have nc := (S4.ne hL).2
        have sb5 := ((sb1.trans sb2).trans sb3).trans sb4
        have hL0 : H L = none := sb5.free np hL
        have nL : q0 ≠ L := nw_ne hL h0
        refine c_list (xs := nz.map V.int) (fun i H' => SB p H H' ∧ Sto H' p c ∧ H' q0 = some (.lst (nz.map V.int)) ∧ ∃ ns : List Int, H' L = some (.lst (ns.map V.int)) ∧ ns.length = i) ⟨sb5.new hL, S4.keep (nw_new hL), nw_new hL _ _ h0, [], upd_same, rfl⟩ (fun i H' _ h => SqL.of h.2.2.1) ?_ ?_
        · rintro i y H' hy ⟨sb, S5, h4, ns, h5, h6⟩
          have hi := (List.getElem?_eq_some_iff.mp hy).1
          rw [List.length_map] at hi
          obtain ⟨z9, rfl⟩ : ∃ z9 : Int, y = .int z9 := by
            rw [List.getElem?_map] at hy
            cases e : nz[i]? with
            | none => rw [e] at hy; cases hy
            | some z9 => rw [e] at hy; exact ⟨z9, (Option.some.inj hy).symm⟩
          walk_at "sx"
          refine ⟨_, h5, by rw [List.length_map]; omega, sb.mut hL0, S5.mut np nc, (upd_ne nL).trans h4, ns ++ [_], by rw [List.map_append]; exact upd_same, hn _ _ _ h6⟩
        · rintro H' ⟨sb, S5, h4, ns, h5, h6⟩
          rw [List.length_map] at h6
          exact k L ns H' hL0 h5 (by omega) sb S5
      · walk_at "sx"
        refine if_d (fun h3 => ?_) (fun h3 => ?_)
        · walk_at "sx"
          rename_i L hL
          have np := (S2.ne hL).1
          have nc := (S2.ne hL).2
          have sb3 := sb1.trans sb2
          have hL0 : H L = none := sb3.free np hL
          have hm : (if 6 < z then 6 else z).toNat ≤ 6 := by split <;> omega
          refine c_range (fun i H' => SB p H H' ∧ Sto H' p c ∧ ∃ ns : List Int, H' L = some (.lst (ns.map V.int)) ∧ ns.length = i) ⟨sb3.new hL, S2.keep (nw_new hL), [], upd_same, rfl⟩ ?_ ?_
          · rintro i H' hi ⟨sb, S3, ns, h4, h5⟩
            walk_at "sx"
            refine ⟨_, _, rfl, S3, fun f H4 f0 f1 sb4 S4 => ?_⟩
            walk_at "sx"
            refine ⟨_, _, _, rfl, S4, by decide, fun t2 H5 t20 _ t21 sb5 S5 => ?_⟩
            have tb := t21 (by decide)
            walk_at "sx"
            exact ⟨_, sb5 _ _ np (sb4 _ _ np h4), by rw [List.length_map]; omega, ((sb.trans sb4).trans sb5).mut hL0, S5.mut np nc, ns ++ [_], by rw [List.map_append]; exact upd_same, hn _ _ _ h5⟩
          · rintro H' ⟨sb, S3, ns, h4, h5⟩
            exact k L ns H' hL0 h4 (by omega) sb S3
        · walk_at "sx"
          refine ⟨_, _, _, _, rfl, S2, by omega, by decide, fun q0 nz H4 f0 h0 l0 _ _ sb4 S4 => ?_⟩
          have nq := S2.ne f0
          walk_at "sx"
          rename_i L hL
          have np := (S4.ne hL).1
          have nc := (S4.ne hL).2
          have sb5 := (sb1.trans sb2).trans sb4
          have hL0 : H L = none := sb5.free np hL
          have nL : q0 ≠ L := nw_ne hL h0
          refine c_list (xs := nz.map V.int) (fun i H' => SB p H H' ∧ Sto H' p c ∧ H' q0 = some (.lst (nz.map V.int)) ∧ ∃ ns : List Int, H' L = some (.lst (ns.map V.int)) ∧ ns.length = i) ⟨sb5.new hL, S4.keep (nw_new hL), nw_new hL _ _ h0, [], upd_same, rfl⟩ (fun i H' _ h => SqL.of h.2.2.1) ?_ ?_
          · rintro i y H' hy ⟨sb, S5, h4, ns, h5, h6⟩
            have hi := (List.getElem?_eq_some_iff.mp hy).1
            rw [List.length_map] at hi
            obtain ⟨z9, rfl⟩ : ∃ z9 : Int, y = .int z9 := by
              rw [List.getElem?_map] at hy
              cases e : nz[i]? with
              | none => rw [e] at hy; cases hy
              | some z9 => rw [e] at hy; exact ⟨z9, (Option.some.inj hy).symm⟩
            walk_at "sx"
            refine ⟨_, h5, by rw [List.length_map]; omega, sb.mut hL0, S5.mut np nc, (upd_ne nL).trans h4, ns ++ [_], by rw [List.map_append]; exact upd_same, hn _ _ _ h6⟩
          · rintro H' ⟨sb, S5, h4, ns, h5, h6⟩
            rw [List.length_map] at h6
            exact k L ns H' hL0 h5 (by omega) sb S5

/-! ### _law_due -/
theorem win_succ (s : Nat) (ds : List D) (n : Nat) : ((List.range (n + 1)).map fun j => D.tup ((ds.drop j).take s)) = ((List.range n).map fun j => D.tup ((ds.drop j).take s)) ++ [D.tup ((ds.drop n).take s)] := by
  rw [List.range_succ, List.map_append]
  rfl
theorem cut_one {xs : List V} : cutV xs (some 1) none = xs.drop 1 := cut_from (k := 1)
/-- what is due: 'good' and the windows -/
def sp_law_due (K : PySem.W.Frag) : Sp := fun vs H Q _ => ∃ (x : Addr) (ns : List Int) (s : Nat), vs = [.ref x, .int s] ∧ H x = some (.lst (ns.map V.int)) ∧ ns.length ≤ 3000 ∧ 2 ≤ s ∧ s ≤ 6 ∧
  ∀ r q H', H r = none → H q = none → Same H H' → H' r = some (.tup [.str "good", .ref q]) → Dv H' (.ref q) (.lst (winD s (ns.map D.int))) → Q (.ref r) H'
theorem ok_law_due (T : Txt K mg a d) : FnOk P w K mg base CX0 1 a.law_due d.law_due ["row", "span"] (sp_law_due K) := by
  refine T.F_law_due.ok sc_law_due (fun vs H Q E h => ?_) (fun cdv A outer s H vs Q E hr h => ⟨_, (pss_cons (ps_set (i := 2) sc_law_due.nd rfl (by first | exact Or.inl rfl | exact Or.inr rfl) (pe_lst pa_nil))
      (pss_cons (ps_set (i := 3) sc_law_due.nd rfl (by first | exact Or.inl rfl | exact Or.inr rfl) (pe_tup pa_nil))
      (pss_cons (ps_for PassesOwn.never rfl (pi_or (kp_list K (pv 0)) (kp_tup K (pv 0))) (pg_name (i := 4) sc_law_due.nd rfl (by first | exact Or.inl rfl | exact Or.inr rfl)) (pss_cons (ps_set (i := 3) sc_law_due.nd rfl (by first | exact Or.inl rfl | exact Or.inr rfl) (pe_op (k_add K) (pv 3) (pe_tup (pa_cons (pv 4) pa_nil))))
      (pss_cons (ps_if (pt_cmpR op_gt (pe_callB (k_len K) (by rfl) T.m_len bt_len (pa_cons (pv 3) pa_nil)) (pv 1) (nomark _)) (pss_one (ps_set (i := 3) sc_law_due.nd rfl (by first | exact Or.inl rfl | exact Or.inr rfl) (pe_slice (k_sl K) (pv 3) (po_some pe_int) po_none))) pss_nil)
      (pss_one (ps_if (pt_cmpR (k_eq K hr.units) (pe_callB (k_len K) (by rfl) T.m_len bt_len (pa_cons (pv 3) pa_nil)) (pv 1) (nomark _)) (pss_one (ps_expr (pe_bm PySem.F.plainAttrs_list PySem.F.slot_list_append PySem.F.type_list_append mt_append (pv 2) (pa_cons (pv 3) pa_nil)))) pss_nil)))))
      (pss_one (ps_ret (pe_tup (pa_cons pe_str (pa_cons (pv 2) pa_nil)))))))), ?_⟩)
  · obtain ⟨x, ns, s, rfl, _⟩ := h
    rfl
  · obtain ⟨x, ns, s, rfl, hx, hl, s2, s6, k⟩ := h
    have zl : sizeLine = 16777216 := sizeLine_eq
    walk_at "sx"
    rename_i L hL t0 ht0
    have sH : Same H (upd (upd H L (.lst [])) t0 (.tup [])) := by walk_at "sames"
    have hL0 : H L = none := hL
    have hL1 : (upd (upd H L (.lst [])) t0 (.tup [])) L = some (.lst []) := by walk_at "look"
    have dv_ints : ∀ {H : Hp} (ns : List Int), DvL H (ns.map V.int) (ns.map D.int) := fun {H} ns => by
      induction ns with
      | nil => rfl
      | cons n ns ih => exact ⟨_, _, rfl, rfl, ih⟩
    refine o_for rfl (.inl (sH _ _ hx)) (fun i σ H' => Same H H' ∧ ∃ (t : Addr) (acc : List V) (u : Option V), σ = [some (.ref x), some (.int s), some (.ref L), some (.ref t), u] ∧ H' t = some (.tup (((ns.take i).drop (i - s)).map V.int)) ∧ H' L = some (.lst acc) ∧ acc.length = i + 1 - s ∧
      DvL (wo L H') acc ((List.range (i + 1 - s)).map fun j => .tup (((ns.map D.int).drop j).take s))) ⟨sH, t0, [], none, rfl, by rw [show (((ns.take 0).drop (0 - s)).map V.int) = [] by simp]; exact upd_same, hL1, by show 0 = 0 + 1 - s; omega, ?_⟩ (fun i σ' H' _ h o ho => ?_) ?_ ?_
    · rw [show 0 + 1 - s = 0 by omega]
      rfl
    · rw [sH _ _ hx] at ho
      rw [← ho]
      exact h.1 _ _ hx
    · rintro i y σ H1 hy ⟨s1, t, acc, u, rfl, ht, hLa, hal, hav⟩
      have hi := (List.getElem?_eq_some_iff.mp hy).1
      rw [List.length_map] at hi
      obtain ⟨z, hz, rfl⟩ : ∃ z : Int, ns[i]? = some z ∧ y = .int z := by
        rw [List.getElem?_map] at hy
        cases e : ns[i]? with
        | none => rw [e] at hy; cases hy
        | some z9 => rw [e] at hy; exact ⟨z9, rfl, (Option.some.inj hy).symm⟩
      walk_at "sx"
      rename_i t1 ht1
      have hlen : (((ns.take i).drop (i - s)).map V.int).length = i - (i - s) := by
        rw [List.length_map, List.length_drop, List.length_take]; omega
      refine r_addT (nw_new ht1 _ _ ht) upd_same (by rw [hlen]; show _ + 1 ≤ _; omega) fun t2 H2 s2 ht2 => ?_
      have hlen2 : ((((ns.take i).drop (i - s)).map V.int) ++ [V.int z]).length = i - (i - s) + 1 := by rw [List.length_append, hlen]; rfl
      have hadd : (((ns.take i).drop (i - s)).map V.int) ++ [V.int z] = (((ns.take (i + 1)).drop (i - s)).map V.int) := by
        rw [List.take_succ, hz, List.drop_append_of_le_length (by rw [List.length_take]; omega), List.map_append]
        rfl
      have sA : Same H1 H2 := (nw_new ht1).trans s2
      walk_at "sx"
      refine if_d (fun h1 => ?_) (fun h1 => ?_)
      · walk_at "sx"
        refine r_slT ht2 fun t3 H3 sB ht3 => ?_
        have s3 : Same H1 H3 := sA.trans sB
        have sz : Same H H3 := s1.trans s3
        have hL3 := s3 _ _ hLa
        rw [hadd, cut_one, ← List.map_drop, List.drop_drop, show i - s + 1 = i + 1 - s by omega] at ht3
        have nt3 : t3 ≠ L := ne_of ht3 hL3 (by intro z; cases z)
        have hlen3 : (((ns.take (i + 1)).drop (i + 1 - s)).map V.int).length = s := by
          rw [List.length_map, List.length_drop, List.length_take]; omega
        walk_at "sx"
        refine if_d (fun h9 => ?_) (fun h9 => ?_)
        · have h9 := vint_inj h9
          walk_at "sx"
          have en : i + 1 + 1 - s = (i + 1 - s) + 1 := by omega
          refine ⟨same_mut sz hL0, t3, acc ++ [.ref t3], _, rfl, (upd_ne nt3).trans ht3, upd_same, by rw [List.length_append, hal, en]; rfl, ?_⟩
          rw [wo_upd, en, win_succ]
          refine DvL.append (hav.mono ?_) ⟨_, _, rfl, ⟨t3, _, rfl, wo_at ht3 nt3, by rw [List.length_map, List.length_drop, List.length_take]; omega, ?_⟩, rfl⟩
          · exact fun b o hb => by
              have nb : b ≠ L := fun z => by rw [z, wo_same] at hb; cases hb
              exact wo_at (s3 _ _ (wo_sub _ _ hb)) nb
          · have e : (((ns.map D.int).drop (i + 1 - s)).take s) = (((ns.take (i + 1)).drop (i + 1 - s)).map D.int) := by
              rw [List.drop_take, ← List.map_drop, ← List.map_take, show i + 1 - (i + 1 - s) = s by omega]
            rw [e]
            exact dv_ints _
        · have h9 := vint_ne h9
          walk_at "sx"
          refine ⟨sz, t3, acc, _, rfl, ht3, hL3, by omega, ?_⟩
          rw [show i + 1 + 1 - s = i + 1 - s by omega]
          refine hav.mono fun b o hb => ?_
          have nb : b ≠ L := fun z => by rw [z, wo_same] at hb; cases hb
          exact wo_at (s3 _ _ (wo_sub _ _ hb)) nb
      · have s3 := sA
        have sz : Same H H2 := s1.trans s3
        have hL3 := s3 _ _ hLa
        rw [hadd, show i - s = i + 1 - s by omega] at ht2
        have ht3 := ht2
        have nt3 : t2 ≠ L := ne_of ht3 hL3 (by intro z; cases z)
        have hlen3 : (((ns.take (i + 1)).drop (i + 1 - s)).map V.int).length = i + 1 := by
          rw [List.length_map, List.length_drop, List.length_take]; omega
        walk_at "sx"
        refine if_d (fun h9 => ?_) (fun h9 => ?_)
        · have h9 := vint_inj h9
          walk_at "sx"
          have en : i + 1 + 1 - s = (i + 1 - s) + 1 := by omega
          refine ⟨same_mut sz hL0, t2, acc ++ [.ref t2], _, rfl, (upd_ne nt3).trans ht2, upd_same, by rw [List.length_append, hal, en]; rfl, ?_⟩
          rw [wo_upd, en, win_succ]
          refine DvL.append (hav.mono ?_) ⟨_, _, rfl, ⟨t2, _, rfl, wo_at ht3 nt3, by rw [List.length_map, List.length_drop, List.length_take]; omega, ?_⟩, rfl⟩
          · exact fun b o hb => by
              have nb : b ≠ L := fun z => by rw [z, wo_same] at hb; cases hb
              exact wo_at (s3 _ _ (wo_sub _ _ hb)) nb
          · have e : (((ns.map D.int).drop (i + 1 - s)).take s) = (((ns.take (i + 1)).drop (i + 1 - s)).map D.int) := by
              rw [List.drop_take, ← List.map_drop, ← List.map_take, show i + 1 - (i + 1 - s) = s by omega]
            rw [e]
            exact dv_ints _
        · have h9 := vint_ne h9
          walk_at "sx"
          refine ⟨sz, t2, acc, _, rfl, ht2, hL3, by omega, ?_⟩
          rw [show i + 1 + 1 - s = i + 1 - s by omega]
          refine hav.mono fun b o hb => ?_
          have nb : b ≠ L := fun z => by rw [z, wo_same] at hb; cases hb
          exact wo_at (s3 _ _ (wo_sub _ _ hb)) nb
    · rintro σ H1 ⟨s1, t, acc, u, rfl, ht, hLa, hal, hav⟩
      rw [List.length_map] at hal hav
      walk_at "sx"
      rename_i r hr'
      refine k r L _ (s1.free hr') hL0 (nw_up s1 hr') upd_same (nw_dv hr' ⟨L, acc, rfl, hLa, by omega, ?_⟩)
      unfold winD
      rw [List.length_map]
      exact hav.mono wo_sub

/-! ### _law_odd_member -/
/-- the odd members -/
def oddMs : List D := [.non, .bl true, .bl false, .str "", .str "0", .lst [], .tup [], .lst [.int 0], .tup [.int 0], .dic [], .dic [(.inl 0, .int 0)]]
theorem oddMs_no : ∀ d ∈ oddMs, d.isInt = false := by decide
def sp_law_odd_member : Sp := fun vs H Q _ => ∃ (p c : Addr), vs = [.ref p] ∧ Sto H p c ∧
  ∀ (v : V) (d : D) (H' : Hp), d ∈ oddMs → Dv (wo p H') v d → SB p H H' → Sto H' p c → Q v H'
theorem ok_law_odd_member (T : Txt K mg a d) : FnOk P w K mg base CX0 3 a.law_odd_member d.law_odd_member ["store"] sp_law_odd_member := by
  refine T.F_law_odd_member.ok sc_law_odd_member (fun vs H Q E h => ?_) (fun cdv A outer s H vs Q E hr h => ⟨_, (pss_cons (ps_set (i := 1) sc_law_odd_member.nd rfl (by first | exact Or.inl rfl | exact Or.inr rfl) (pe_lst (pa_cons pe_non (pa_cons pe_bl (pa_cons pe_bl (pa_cons pe_str (pa_cons pe_str (pa_cons (pe_lst pa_nil) (pa_cons (pe_tup pa_nil) (pa_cons (pe_lst (pa_cons pe_int pa_nil)) (pa_cons (pe_tup (pa_cons pe_int pa_nil)) (pa_cons pe_dnewK (pa_cons (pe_disp (pps_cons pe_int pe_int pps_nil) (by rfl) (by rfl) (fun z => by cases z) (by decide)) pa_nil)))))))))))))
      (pss_one (ps_ret (pe_ix (k_ix K) (pv 1) (pe_call (ok_law_take T) (hr.mono (by omega)) rfl T.g_law_take T.F_law_take.kp T.b_law_take .nil pass0 (pa_cons (pv 0) (pa_cons (pe_callB (k_len K) (by rfl) T.m_len bt_len (pa_cons (pv 1) pa_nil)) pa_nil))) (fun _ _ => rfl))))), ?_⟩)
  · obtain ⟨p, c, rfl, _⟩ := h
    rfl
  · obtain ⟨p, c, rfl, S, k⟩ := h
    walk_at "sx"
    rename_i p1 h1 p2 h2 p3 h3 p4 h4 p5 h5 p6 h6 p7 h7
    generalize hG : upd _ p7 _ = G
    have sG : Same H G := by rw [← hG]; walk_at "sames"
    have np : ∀ {b : Addr} {H1 : Hp}, Same H H1 → H1 b = none → b ≠ p := fun s e z => by
      obtain ⟨cells, at', bank, mx, cnt, hp, _⟩ := S
      rw [z, s _ _ hp] at e
      cases e
    have g1 : G p1 = some (.lst []) := by rw [← hG]; walk_at "look"
    have g2 : G p2 = some (.tup []) := by rw [← hG]; walk_at "look"
    have g3 : G p3 = some (.lst [.int 0]) := by rw [← hG]; walk_at "look"
    have g4 : G p4 = some (.tup [.int 0]) := by rw [← hG]; walk_at "look"
    have g5 : G p5 = some (.dK []) := by rw [← hG]; walk_at "look"
    have g6 : G p6 = some (.dK [(.inl 0, .int 0)]) := by rw [← hG]; walk_at "look"
    have g7 : G p7 = some (.lst [V.non, .bl true, .bl false, .str "", .str "0", .ref p1, .ref p2, .ref p3, .ref p4, .ref p5, .ref p6]) := by rw [← hG]; walk_at "look"
    have n1 : p1 ≠ p := np (by walk_at "sames") h1
    have n2 : p2 ≠ p := np (by walk_at "sames") h2
    have n3 : p3 ≠ p := np (by walk_at "sames") h3
    have n4 : p4 ≠ p := np (by walk_at "sames") h4
    have n5 : p5 ≠ p := np (by walk_at "sames") h5
    have n6 : p6 ≠ p := np (by walk_at "sames") h6
    have n7 : p7 ≠ p := np (by walk_at "sames") h7
    clear hG h1 h2 h3 h4 h5 h6 h7
    refine ⟨_, _, _, rfl, S.keep sG, by show (11 : Int).natAbs < 2 ^ 8000; decide, fun t H1 t0 _ t1 sb1 S1 => ?_⟩
    have tb : t < 11 := t1 (by show (1 : Int) < 11; decide)
    have sb : SB p H H1 := (SB.of sG).trans sb1
    have w : ∀ {b : Addr} {o : HO}, b ≠ p → G b = some o → wo p H1 b = some o := fun n e => wo_at (sb1 _ _ n e) n
    have o0 : ∀ n : Nat, n ≤ 100 → n ≤ sizeLine := fun n h => Nat.le_trans h (by decide)
    have fin : ∀ (v : V) (d : D), oddMs[t.toNat]? = some d → Dv (wo p H1) v d → Q v H1 := fun v d e2 q => k v d H1 (List.mem_of_getElem? e2) q sb S1
    have step : ∀ (v : V), [V.non, .bl true, .bl false, .str "", .str "0", .ref p1, .ref p2, .ref p3, .ref p4, .ref p5, .ref p6][t.toNat]? = some v → Q v H1 → rIx K (.ref p7) (.int t) H1 Q := fun v e q => by
      refine r_ixL' (sb1 _ _ n7 g7) ?_ q
      have := atI_nat e
      rwa [Int.toNat_of_nonneg t0] at this
    have ht : t = 0 ∨ t = 1 ∨ t = 2 ∨ t = 3 ∨ t = 4 ∨ t = 5 ∨ t = 6 ∨ t = 7 ∨ t = 8 ∨ t = 9 ∨ t = 10 := by omega
    rcases ht with rfl | rfl | rfl | rfl | rfl | rfl | rfl | rfl | rfl | rfl | rfl
    · exact step _ rfl (fin _ _ rfl rfl)
    · exact step _ rfl (fin _ _ rfl rfl)
    · exact step _ rfl (fin _ _ rfl rfl)
    · exact step _ rfl (fin _ _ rfl rfl)
    · exact step _ rfl (fin _ _ rfl rfl)
    · exact step _ rfl (fin _ _ rfl ⟨p1, _, rfl, w n1 g1, o0 _ (by decide), rfl⟩)
    · exact step _ rfl (fin _ _ rfl ⟨p2, _, rfl, w n2 g2, o0 _ (by decide), rfl⟩)
    · exact step _ rfl (fin _ _ rfl ⟨p3, _, rfl, w n3 g3, o0 _ (by decide), _, _, rfl, rfl, rfl⟩)
    · exact step _ rfl (fin _ _ rfl ⟨p4, _, rfl, w n4 g4, o0 _ (by decide), _, _, rfl, rfl, rfl⟩)
    · exact step _ rfl (fin _ _ rfl ⟨p5, _, rfl, w n5 g5, o0 _ (by decide), rfl⟩)
    · exact step _ rfl (fin _ _ rfl ⟨p6, _, rfl, w n6 g6, o0 _ (by show 1 ≤ 100; decide), _, _, rfl, rfl, rfl⟩)

/-! ### _law_refuses -/
theorem go_le {n : Nat} : ∀ {ds : List D}, (∀ d ∈ ds, d.depth ≤ n) → D.depth.go ds ≤ n
  | [], _ => Nat.zero_le _
  | d :: ds, h => Nat.max_le.mpr ⟨h d (List.mem_cons_self ..), go_le fun e he => h e (List.mem_cons_of_mem _ he)⟩
theorem depth_ints (ns : List Int) : D.depth.go (ns.map D.int) ≤ 0 := go_le fun d hd => by
  obtain ⟨n, _, rfl⟩ := List.mem_map.mp hd
  exact Nat.le_refl _
theorem win_tups {s : Nat} {ns : List Int} {d : D} (h : d ∈ winD s (ns.map D.int)) : ∃ ms : List Int, d = .tup (ms.map D.int) := by
  obtain ⟨i, _, rfl⟩ := List.mem_map.mp h
  exact ⟨(ns.drop i).take s, by rw [List.map_take, List.map_drop]⟩
theorem depth_win (s : Nat) (ns : List Int) : D.depth.go (winD s (ns.map D.int)) ≤ 1 := go_le fun d hd => by
  obtain ⟨ms, rfl⟩ := win_tups hd
  have := depth_ints ms
  show 1 + D.depth.go (ms.map D.int) ≤ 1
  omega
theorem noL_win (s : Nat) (ns : List Int) : noLs (winD s (ns.map D.int)) = true := noLs_all fun d hd => by
  obtain ⟨ms, rfl⟩ := win_tups hd
  exact noLs_ints ms
theorem ints_all {ns : List Int} {j : Nat} {c : D} (h : (ns.map D.int)[j]? = some c) : c.isInt = true := by
  rw [List.getElem?_map] at h
  cases e : ns[j]? with
  | none => rw [e] at h; cases h
  | some z => rw [e] at h; rw [← Option.some.inj h]; rfl
theorem span_in {s : Nat} (h1 : 2 ≤ s) (h2 : s ≤ 6) : (D.int (s : Int)).inR 2 6 = true := by
  show (decide ((2 : Int) ≤ s) && decide ((s : Int) ≤ 6)) = true
  rw [decide_eq_true (by omega), decide_eq_true (by omega)]
  rfl
/-- ('good', windows) as deep data -/
theorem dv_good {H : Hp} {u ul : Addr} {d : D} (hu : H u = some (.tup [.str "good", .ref ul])) (h : Dv H (.ref ul) d) : Dv H (.ref u) (.tup [.str "good", d]) :=
  ⟨u, _, rfl, hu, len_ok rfl, _, _, rfl, rfl, _, _, rfl, h, rfl⟩
theorem depth_good (s : Nat) (ns : List Int) : (D.tup [.str "good", .lst (winD s (ns.map D.int))]).depth < 8 := by
  have := depth_win s ns
  show 1 + max 0 (max (1 + D.depth.go (winD s (ns.map D.int))) 0) < 8
  omega
theorem depth_wins (s : Nat) (ns : List Int) : (D.lst (winD s (ns.map D.int))).depth < 8 := by
  have := depth_win s ns
  show 1 + D.depth.go (winD s (ns.map D.int)) < 8
  omega
theorem depth_row (ns : List Int) : (D.lst (ns.map D.int)).depth < 8 := by
  have := depth_ints ns
  show 1 + D.depth.go (ns.map D.int) < 8
  omega
theorem notnum_in {d : D} (h : NotNum 2 6 d) : d.inR 2 6 = false := by
  rcases h with ⟨i, rfl, h⟩ | h
  · show (decide ((2 : Int) ≤ i) && decide (i ≤ 6)) = false
    rcases h with h | h
    · rw [decide_eq_false (by omega)]; rfl
    · rw [decide_eq_false (show ¬ i ≤ 6 by omega), Bool.and_false]
  · have hall : ∀ d ∈ odds, d.inR 2 6 = false := by decide
    exact hall d h
theorem rev_ints (ns : List Int) : (ns.map V.int).reverse = ns.reverse.map V.int := by rw [List.map_reverse]
/-- what is refused -/
def sp_law_refuses (K : PySem.W.Frag) : Sp := fun vs H Q _ => ∃ (p c r : Addr) (ns : List Int) (s : Nat), vs = [.ref p, .ref r, .int s] ∧ Sto H p c ∧ r ≠ p ∧ H r = some (.lst (ns.map V.int)) ∧ ns.length ≤ 40 ∧ 2 ≤ s ∧ s ≤ 6 ∧ ∀ H', Q (.bl true) H'
theorem ok_law_refuses (T : Txt K mg a d) : FnOk P w K mg base CX0 11 a.law_refuses d.law_refuses ["store", "row", "span"] (sp_law_refuses K) := by
  refine T.F_law_refuses.ok sc_law_refuses (fun vs H Q E h => ?_) (fun cdv A outer s H vs Q E hr h => ⟨_, (pss_cons (ps_set (i := 3) sc_law_refuses.nd rfl (by first | exact Or.inl rfl | exact Or.inr rfl) (pe_call (ok_law_not_number T) (hr.mono (by omega)) rfl T.g_law_not_number T.F_law_not_number.kp T.b_law_not_number .nil pass0 (pa_cons (pv 0) (pa_cons pe_int (pa_cons pe_int pa_nil)))))
      (pss_cons (ps_for PassesOwn.never rfl (kp_tup K (pe_tup (pa_cons (pv 1) (pa_cons (pe_slice (k_sl K) (pv 1) po_none (po_some pe_int)) (pa_cons (pe_tup pa_nil) (pa_cons (kp_revL K (pv 1)) pa_nil)))))) (pg_name (i := 4) sc_law_refuses.nd rfl (by first | exact Or.inl rfl | exact Or.inr rfl)) (pss_one (ps_if (pt_not (pt_val (pe_call (ok_law_same T 8) (hr.mono (by omega)) rfl T.g_law_same T.F_law_same.kp T.b_law_same .nil pass0 (pa_cons (pe_call (ok_law_answer T) (hr.mono (by omega)) rfl T.g_law_answer T.F_law_answer.kp T.b_law_answer .nil pass0 (pa_cons (pv 4) (pa_cons (pv 3) pa_nil))) (pa_cons (pe_tup (pa_cons pe_str (pa_cons pe_non (pa_cons pe_bl pa_nil)))) pa_nil))))) (pss_one (ps_ret pe_bl)) pss_nil)))
      (pss_cons (ps_for PassesOwn.never rfl (kp_tup K (pe_tup (pa_cons (pe_make T.mk_Web (ok_Web__init__ T) (hr.mono (by omega)) rfl T.g_Web T.bm_1.choose_spec.2 T.bm_1.choose_spec.1 passL (pa_cons pe_int pa_nil)) (pa_cons (pe_make T.mk_Web (ok_Web__init__ T) (hr.mono (by omega)) rfl T.g_Web T.bm_1.choose_spec.2 T.bm_1.choose_spec.1 passL (pa_cons (pe_callB (k_len K) (by rfl) T.m_len bt_len (pa_cons (pv 1) pa_nil)) pa_nil)) (pa_cons (pe_make T.mk_Order (ok_Order__init__ T) (hr.mono (by omega)) rfl T.g_Order T.bm_0.choose_spec.2 T.bm_0.choose_spec.1 passL (pa_cons pe_int pa_nil)) (pa_cons (pe_call (ok_law_not_sequence T) (hr.mono (by omega)) rfl T.g_law_not_sequence T.F_law_not_sequence.kp T.b_law_not_sequence .nil pass0 (pa_cons (pv 0) pa_nil)) pa_nil)))))) (pg_name (i := 5) sc_law_refuses.nd rfl (by first | exact Or.inl rfl | exact Or.inr rfl)) (pss_one (ps_for PassesOwn.never rfl (kp_tup K (pe_tup (pa_cons (pv 2) (pa_cons (pv 3) pa_nil)))) (pg_name (i := 4) sc_law_refuses.nd rfl (by first | exact Or.inl rfl | exact Or.inr rfl)) (pss_one (ps_if (pt_not (pt_val (pe_call (ok_law_same T 8) (hr.mono (by omega)) rfl T.g_law_same T.F_law_same.kp T.b_law_same .nil pass0 (pa_cons (pe_call (ok_law_answer T) (hr.mono (by omega)) rfl T.g_law_answer T.F_law_answer.kp T.b_law_answer .nil pass0 (pa_cons (pv 5) (pa_cons (pv 4) pa_nil))) (pa_cons (pe_tup (pa_cons pe_str (pa_cons pe_non (pa_cons pe_bl pa_nil)))) pa_nil))))) (pss_one (ps_ret pe_bl)) pss_nil)))))
      (pss_cons (ps_set (i := 6) sc_law_refuses.nd rfl (by first | exact Or.inl rfl | exact Or.inr rfl) (pe_call (ok_law_edge T) (hr.mono (by omega)) rfl T.g_law_edge T.F_law_edge.kp T.b_law_edge .nil pass0 (pa_cons (pv 0) (pa_cons pe_int (pa_cons (pe_callB (k_len K) (by rfl) T.m_len bt_len (pa_cons (pv 1) pa_nil)) pa_nil)))))
      (pss_cons (ps_set (i := 7) sc_law_refuses.nd rfl (by first | exact Or.inl rfl | exact Or.inr rfl) (pe_op (k_add K) (pe_op (k_add K) (pe_slice (k_sl K) (pv 1) po_none (po_some (pv 6))) (pe_lst (pa_cons (pe_call (ok_law_odd_member T) (hr.mono (by omega)) rfl T.g_law_odd_member T.F_law_odd_member.kp T.b_law_odd_member .nil pass0 (pa_cons (pv 0) pa_nil)) pa_nil))) (pe_slice (k_sl K) (pv 1) (po_some (pv 6)) po_none)))
      (pss_cons (ps_set (i := 8) sc_law_refuses.nd rfl (by first | exact Or.inl rfl | exact Or.inr rfl) (pe_call (ok_law_form T) (hr.mono (by omega)) rfl T.g_law_form T.F_law_form.kp T.b_law_form .nil pass0 (pa_cons (pv 0) (pa_cons (pv 7) pa_nil))))
      (pss_cons (ps_for PassesOwn.never rfl (kp_tup K (pe_tup (pa_cons (pv 2) (pa_cons (pv 3) pa_nil)))) (pg_name (i := 4) sc_law_refuses.nd rfl (by first | exact Or.inl rfl | exact Or.inr rfl)) (pss_cons (ps_if (pt_not (pt_val (pe_call (ok_law_same T 8) (hr.mono (by omega)) rfl T.g_law_same T.F_law_same.kp T.b_law_same .nil pass0 (pa_cons (pe_call (ok_law_answer T) (hr.mono (by omega)) rfl T.g_law_answer T.F_law_answer.kp T.b_law_answer .nil pass0 (pa_cons (pv 8) (pa_cons (pv 4) pa_nil))) (pa_cons (pe_tup (pa_cons pe_str (pa_cons (pv 6) (pa_cons pe_bl pa_nil)))) pa_nil))))) (pss_one (ps_ret pe_bl)) pss_nil)
      (pss_one (ps_if (pt_not (pt_val (pe_call (ok_law_same T 8) (hr.mono (by omega)) rfl T.g_law_same T.F_law_same.kp T.b_law_same .nil pass0 (pa_cons (pe_call (ok_law_answer T) (hr.mono (by omega)) rfl T.g_law_answer T.F_law_answer.kp T.b_law_answer .nil pass0 (pa_cons (pe_op (k_add K) (pv 7) (pe_lst (pa_cons pe_non (pa_cons pe_str pa_nil)))) (pa_cons (pv 4) pa_nil))) (pa_cons (pe_tup (pa_cons pe_str (pa_cons (pv 6) (pa_cons pe_bl pa_nil)))) pa_nil))))) (pss_one (ps_ret pe_bl)) pss_nil))))
      (pss_one (ps_ret (pe_call (ok_law_same T 8) (hr.mono (by omega)) rfl T.g_law_same T.F_law_same.kp T.b_law_same .nil pass0 (pa_cons (pe_callTy (k_list K) (by rfl) T.m_list bt_list (pa_cons (pv 8) pa_nil)) (pa_cons (pv 7) pa_nil)))))))))))), ?_⟩)
  · obtain ⟨p, c, r, ns, s, rfl, _⟩ := h
    rfl
  · obtain ⟨p, c, r, ns, s, rfl, S, nrp, hr0, hl, s2, s6, k⟩ := h
    have zl : sizeLine = 16777216 := sizeLine_eq
    walk_at "sx"
    refine ⟨_, _, _, _, rfl, S, fun y dy H1 hny hy sb1 S1 => ?_⟩
    have hr1 := sb1 _ _ nrp hr0
    walk_at "sx"
    refine r_slL (SqL.of hr1) fun a1 ha1 => ?_
    walk_at "sx"
    rename_i a2 ha2 a3 ha3 T1 hT1
    have eno : ∀ s' : Nat, dy = .int s' → 2 ≤ s' → s' ≤ 6 → False := fun s' e h1 h2 => by
      have h := span_in h1 h2
      rw [← e, notnum_in hny] at h
      cases h
    generalize hHT : upd (upd (upd (upd H1 a1 _) a2 _) a3 _) T1 _ = HT
    have sT : Same H1 HT := by rw [← hHT]; walk_at "sames"
    have f2 : HT a1 = some (.lst ((ns.take 1).map V.int)) := by rw [List.map_take, ← cut_to, ← hHT]; walk_at "look"
    have f3 : HT a2 = some (.tup []) := by rw [← hHT]; walk_at "look"
    have f4 : HT a3 = some (.lst (ns.reverse.map V.int)) := by rw [← rev_ints, ← hHT]; walk_at "look"
    have fT : HT T1 = some (.tup [.ref r, .ref a1, .ref a2, .ref a3]) := by rw [← hHT]; exact upd_same
    clear hHT
    have good : ∀ v ∈ [V.ref r, .ref a1, .ref a2, .ref a3], ∃ (b : Addr) (ms : List Int), v = .ref b ∧ SeqAt' HT b (ms.map V.int) ∧ ms.length ≤ 3000 := fun v hv => by
      simp only [List.mem_cons, List.not_mem_nil, or_false] at hv
      rcases hv with rfl | rfl | rfl | rfl
      · exact ⟨r, ns, rfl, .inl (sT _ _ hr1), by omega⟩
      · exact ⟨a1, ns.take 1, rfl, .inl f2, by rw [List.length_take]; omega⟩
      · exact ⟨a2, [], rfl, .inr f3, by decide⟩
      · exact ⟨a3, ns.reverse, rfl, .inl f4, by rw [List.length_reverse]; omega⟩
    have hyT : Dv (wo p HT) y dy := hy.mono (SB.of sT).wo
    refine f_tup (xs := [.ref r, .ref a1, .ref a2, .ref a3]) (fun i σ H' => Same HT H' ∧ ∃ w1, σ = [some (.ref p), some (.ref r), some (.int s), some y, w1, none, none, none, none]) ⟨Same.refl _, _, rfl⟩ (fun i σ' H' _ h => SqT.of (h.1 _ _ fT)) ?_ ?_
    · rintro i v σ H2 hv ⟨s3, w1, rfl⟩
      obtain ⟨b, ms, rfl, hb, hml⟩ := good v (List.mem_of_getElem? hv)
      walk_at "sx"
      refine ⟨.ref b, y, dy, rfl, (hyT.mono (SB.of s3).wo).mono wo_sub, .inr ⟨b, _, ms.map D.int, rfl, hb.same s3, by rw [List.length_map]; omega, dv_ints ms, .inr ⟨fun j c h => ints_all h, fun _ v2 H3 s4 hv2 => ?_, fun s' e h1 h2 => (eno s' e h1 h2).elim⟩⟩⟩
      walk_at "sx"
      rename_i t1 ht1
      refine ⟨_, _, .tup [.str "BadNumber", .non, .bl true], rfl, hv2.mono (nw_new ht1), tup3 upd_same rfl rfl rfl, by decide, fun H4 s5 => ?_⟩
      walk_at "sx"
      exact ⟨s3.trans (s4.trans ((nw_new ht1).trans s5)), _, rfl⟩
    · rintro σ H2 ⟨s3, w1, rfl⟩
      have B2 : SB p H1 H2 := SB.of (sT.trans s3)
      have S2 := (S1.keep sT).keep s3
      walk_at "sx"
      intro x1 d1 hx1 hd1 nd1
      refine ⟨x1, d1, 1, rfl, by decide, by decide, upd_same, fun H3 sb3 ⟨f31, g3⟩ => ⟨rfl, ?_⟩⟩
      have s23 : Same H2 H3 := sb_same (same_mut (nw_new hd1) hx1) sb3 hx1
      have hr3 := s23 _ _ (B2 _ _ nrp hr1)
      walk_at "sx"
      intro x2 d2 hx2 hd2 nd2
      refine ⟨x2, d2, _, rfl, by omega, by rw [List.length_map]; omega, upd_same, fun H4 sb4 ⟨f41, g4⟩ => ⟨rfl, ?_⟩⟩
      have s34 : Same H3 H4 := sb_same (same_mut (nw_new hd2) hx2) sb4 hx2
      walk_at "sx"
      intro x3 d3 hx3 hd3 nd3
      refine ⟨x3, d3, 2, rfl, by decide, by decide, upd_same, fun H5 sb5 ⟨f51, g5⟩ => ⟨rfl, ?_⟩⟩
      have s45 : Same H4 H5 := sb_same (same_mut (nw_new hd3) hx3) sb5 hx3
      have S3 := S2.keep s23
      have S4 := S3.keep s34
      have S5 := S4.keep s45
      walk_at "sx"
      refine ⟨_, _, rfl, S5, fun v4 d4 H6 hd4 hv4 sb6 S6 => ?_⟩
      walk_at "sx"
      rename_i T2 hT2
      have B6 : SB p H1 H6 := (B2.trans (SB.of ((s23.trans s34).trans s45))).trans sb6
      have s67 := nw_new (o := .tup [.ref x1, .ref x2, .ref x3, v4]) hT2
      have fT2 : upd H6 T2 (.tup [.ref x1, .ref x2, .ref x3, v4]) T2 = some (.tup [.ref x1, .ref x2, .ref x3, v4]) := upd_same
      generalize upd H6 T2 (.tup [.ref x1, .ref x2, .ref x3, v4]) = H7 at s67 fT2 ⊢
      have S7 := S6.keep s67
      have B7 : SB p H1 H7 := B6.trans (SB.of s67)
      have hns : ∀ v ∈ [V.ref x1, .ref x2, .ref x3, v4], ∀ H', Same H7 H' → SeqIs K H' v false := fun v hv H' s' => by
        have web : ∀ {x d : Addr} {f : List (Str × V)}, H7 x = some (.ins a.Web d f) → SeqIs K H' (.ref x) false := fun h => ⟨_, T.is_Web.ty (s' _ _ h), T.is_Web.seq⟩
        simp only [List.mem_cons, List.not_mem_nil, or_false] at hv
        rcases hv with rfl | rfl | rfl | rfl
        · exact web (s67 _ _ (sb6 _ _ (S2.ne hx1).1 (s45 _ _ (s34 _ _ g3))))
        · exact web (s67 _ _ (sb6 _ _ (S3.ne hx2).1 (s45 _ _ g4)))
        · exact ⟨_, T.is_Order.ty (s' _ _ (s67 _ _ (sb6 _ _ (S4.ne hx3).1 g5))), T.is_Order.seq⟩
        · have hall : ∀ d ∈ noSeqs, d.isSeq = false := by decide
          have h := seqIs_D (K := K) (((hv4.mono (SB.of (s67.trans s')).wo)).mono wo_sub)
          rw [hall d4 hd4] at h
          exact h
      refine f_tup (xs := [.ref x1, .ref x2, .ref x3, v4]) (fun i σ H' => Same H7 H' ∧ ∃ w1 w2, σ = [some (.ref p), some (.ref r), some (.int s), some y, w1, w2, none, none, none]) ⟨Same.refl _, _, _, rfl⟩ (fun i σ' H' _ h => SqT.of (h.1 _ _ fT2)) ?_ ?_
      · rintro i v σ H8 hv ⟨s8, w1, w2, rfl⟩
        have hv8 := hns v (List.mem_of_getElem? hv)
        walk_at "sx"
        rename_i T3 hT3
        have s89 := nw_new (o := .tup [.int s, y]) hT3
        have fT3 : upd H8 T3 (.tup [.int s, y]) T3 = some (.tup [.int s, y]) := upd_same
        generalize upd H8 T3 (.tup [.int s, y]) = H9 at s89 fT3 ⊢
        have hy9 : Dv H9 y dy := (hy.mono (B7.trans (SB.of (s8.trans s89))).wo).mono wo_sub
        refine f_tup (xs := [.int s, y]) (fun i σ H' => Same H9 H' ∧ ∃ w1, σ = [some (.ref p), some (.ref r), some (.int s), some y, w1, some v, none, none, none]) ⟨Same.refl _, _, rfl⟩ (fun i σ' H' _ h => SqT.of (h.1 _ _ fT3)) ?_ ?_
        · rintro i2 one σ H10 hone ⟨s10, w3, rfl⟩
          obtain ⟨done, hdone⟩ : ∃ d, Dv H10 one d := by
            have h := List.mem_of_getElem? hone
            simp only [List.mem_cons, List.not_mem_nil, or_false] at h
            rcases h with rfl | rfl
            · exact ⟨.int s, rfl⟩
            · exact ⟨dy, hy9.mono s10⟩
          walk_at "sx"
          refine ⟨v, one, done, rfl, hdone, .inl ⟨fun H' s' => hv8 H' (((s8.trans s89).trans s10).trans s'), fun v2 H11 s11 hv2 => ?_⟩⟩
          walk_at "sx"
          rename_i t1 ht1
          refine ⟨_, _, badW .non, rfl, hv2.mono (nw_new ht1), tup3 upd_same rfl rfl rfl, by decide, fun H12 s12 => ?_⟩
          walk_at "sx"
          exact ⟨s10.trans (s11.trans ((nw_new ht1).trans s12)), _, rfl⟩
        · rintro σ H10 ⟨s10, w3, rfl⟩
          exact ⟨(s8.trans s89).trans s10, _, _, rfl⟩
      · rintro σ H8 ⟨s8, w1, w2, rfl⟩
        have S8 := S7.keep s8
        have B8 : SB p H1 H8 := B7.trans (SB.of s8)
        have hr8 := B8 _ _ nrp hr1
        have hlm : (ns.map V.int).length = ns.length := List.length_map _
        walk_at "sx"
        rw [hlm]
        refine ⟨_, _, _, _, rfl, S8, Nat.lt_of_le_of_lt (show _ ≤ 3000 by omega) (by decide), fun t H9 te1 te2 sb9 S9 => ?_⟩
        obtain ⟨i, rfl, hi⟩ : ∃ i : Nat, t = (i : Int) ∧ i ≤ ns.length := by
          by_cases h : (ns.length : Int) ≤ 0
          · exact ⟨0, te1 h, Nat.zero_le _⟩
          · have := te2 (by omega)
            exact ⟨t.toNat, by omega, by omega⟩
        have hr9 := sb9 _ _ nrp hr8
        walk_at "sx"
        refine r_slL (SqL.of hr9) fun b1 hb1 => ?_
        rw [cut_to, ← List.map_take]
        have s9 := nw_new (o := .lst ((ns.take i).map V.int)) hb1
        walk_at "sx"
        refine ⟨_, _, rfl, S9.keep s9, fun ov od H10 hod hov sb10 S10 => ?_⟩
        have g1 := sb10 _ _ (S9.ne hb1).1 (show upd H9 b1 (.lst ((ns.take i).map V.int)) b1 = _ from upd_same)
        have hr10 := sb10 _ _ nrp (s9 _ _ hr9)
        walk_at "sx"
        rename_i b2 hb2
        refine r_addL' (nw_new hb2 _ _ g1) upd_same (by rw [List.length_map, List.length_take]; show _ + 1 ≤ _; omega) fun b3 hb3 => ?_
        have s11 := nw_up (o := .lst ((ns.take i).map V.int ++ [ov])) (nw_new (o := .lst [ov]) hb2) hb3
        have hr11 := s11 _ _ hr10
        have g3 : upd (upd H10 b2 (.lst [ov])) b3 (.lst ((ns.take i).map V.int ++ [ov])) b3 = some (.lst ((ns.take i).map V.int ++ [ov])) := upd_same
        generalize upd (upd H10 b2 (.lst [ov])) b3 (.lst ((ns.take i).map V.int ++ [ov])) = H11 at s11 hr11 g3 ⊢
        walk_at "sx"
        refine r_slL (SqL.of hr11) fun b4 hb4 => ?_
        rw [cut_from, ← List.map_drop]
        walk_at "sx"
        refine r_addL' (nw_new hb4 _ _ g3) upd_same (by rw [List.length_append, List.length_map, List.length_take, List.length_map, List.length_drop]; show _ + 1 + _ ≤ _; omega) fun b5 hb5 => ?_
        have S12 := ((S10.keep s11).keep (nw_new (o := .lst ((ns.drop i).map V.int)) hb4))
        have nb5 := (S12.ne hb5).1
        have s12 := nw_up (o := .lst (((ns.take i).map V.int ++ [ov]) ++ (ns.drop i).map V.int)) (nw_new (o := .lst ((ns.drop i).map V.int)) hb4) hb5
        have S13 := S12.keep (nw_new (o := .lst (((ns.take i).map V.int ++ [ov]) ++ (ns.drop i).map V.int)) hb5)
        have lx : (((ns.take i).map V.int ++ [ov]) ++ (ns.drop i).map V.int).length ≤ 41 := by
          rw [List.length_append, List.length_append, List.length_map, List.length_map, List.length_take, List.length_drop]
          show _ + 1 + _ ≤ _
          omega
        have dvl : DvL (wo p H10) (((ns.take i).map V.int ++ [ov]) ++ (ns.drop i).map V.int) (((ns.take i).map D.int ++ [od]) ++ (ns.drop i).map D.int) := DvL.append (DvL.append (dv_ints _) ⟨_, _, rfl, hov, rfl⟩) (dv_ints _)
        have g5 : upd (upd H11 b4 (.lst ((ns.drop i).map V.int))) b5 (.lst (((ns.take i).map V.int ++ [ov]) ++ (ns.drop i).map V.int)) b5 = some (.lst (((ns.take i).map V.int ++ [ov]) ++ (ns.drop i).map V.int)) := upd_same
        have l1 : ((ns.take i).map D.int).length = i := by rw [List.length_map, List.length_take]; omega
        have hodn : od.isInt = false := oddMs_no od hod
        have hdep : ∀ d ∈ ((ns.take i).map D.int ++ [od]) ++ (ns.drop i).map D.int, d.depth ≤ 3 := fun d hd => by
          have hall : ∀ d ∈ oddMs, d.depth ≤ 3 := by decide
          have hint : ∀ (ms : List Int), d ∈ ms.map D.int → d.depth ≤ 3 := fun ms h => by
            obtain ⟨z, _, rfl⟩ := List.mem_map.mp h
            exact Nat.zero_le _
          rcases List.mem_append.mp hd with hd | hd
          · rcases List.mem_append.mp hd with hd | hd
            · exact hint _ hd
            · rw [List.mem_singleton.mp hd]
              exact hall od hod
          · exact hint _ hd
        generalize ((ns.take i).map V.int ++ [ov]) ++ (ns.drop i).map V.int = xs at s12 S13 lx dvl g5 ⊢
        generalize upd (upd H11 b4 (.lst ((ns.drop i).map V.int))) b5 (.lst xs) = H13 at s12 S13 g5 ⊢
        walk_at "sx"
        refine ⟨_, _, _, _, rfl, S13, nb5, .inl g5, fun g H14 hF ng sb14 S14 => ?_⟩
        have hg14 : SeqAt' H14 g xs := hF.elim (fun h => .inl h.1) .inr
        have B14 : SB p H10 H14 := (SB.of (s11.trans s12)).trans sb14
        have By : SB p H1 H14 := (((B8.trans sb9).trans (SB.of s9)).trans sb10).trans B14
        have g14 := sb14 _ _ nb5 g5
        walk_at "sx"
        rename_i T4 hT4
        have s15 := nw_new (o := .tup [.int s, y]) hT4
        have fT4 : upd H14 T4 (.tup [.int s, y]) T4 = some (.tup [.int s, y]) := upd_same
        generalize upd H14 T4 (.tup [.int s, y]) = H15 at s15 fT4 ⊢
        have hy15 : Dv H15 y dy := (hy.mono (By.trans (SB.of s15)).wo).mono wo_sub
        have dv15 : DvL H15 xs (((ns.take i).map D.int ++ [od]) ++ (ns.drop i).map D.int) := (dvl.mono (B14.trans (SB.of s15)).wo).mono wo_sub
        refine f_tup (xs := [.int s, y]) (fun i2 σ H' => Same H15 H' ∧ ∃ w1 w2, σ = [some (.ref p), some (.ref r), some (.int s), some y, w1, w2, some (.int i), some (.ref b5), some (.ref g)]) ⟨Same.refl _, _, _, rfl⟩ (fun i σ' H' _ h => SqT.of (h.1 _ _ fT4)) ?_ ?_
        · rintro i2 one σ H16 hone ⟨s16, w3, w4, rfl⟩
          obtain ⟨done, hdone⟩ : ∃ d, ∀ H', Same H16 H' → Dv H' one d := by
            have h := List.mem_of_getElem? hone
            simp only [List.mem_cons, List.not_mem_nil, or_false] at h
            rcases h with rfl | rfl
            · exact ⟨.int s, fun _ _ => rfl⟩
            · exact ⟨dy, fun H' s' => hy15.mono (s16.trans s')⟩
          walk_at "sx"
          refine ⟨.ref g, one, done, rfl, hdone _ (Same.refl _), .inr ⟨g, xs, _, rfl, hg14.same (s15.trans s16), by omega, dv15.mono s16, .inl ⟨i, od, bent_at l1, hodn, fun j c hj hc => ints_all (bent_pre l1 hj hc), fun v2 H17 s17 hv2 => ?_⟩⟩⟩
          walk_at "sx"
          rename_i t1 ht1
          refine ⟨_, _, badW (.int i), rfl, hv2.mono (nw_new ht1), tup3 upd_same rfl rfl rfl, (show 1 + max 0 (max 0 (max 0 0)) < 8 by decide), fun H18 s18 => ?_⟩
          have s1618 := s17.trans ((nw_new ht1).trans s18)
          have g18 := s1618 _ _ (s16 _ _ (s15 _ _ g14))
          walk_at "sx"
          rename_i t2 ht2
          refine r_addL' (nw_new ht2 _ _ g18) upd_same (by show _ + 2 ≤ _; omega) fun t3 ht3 => ?_
          have s19 := nw_up (o := .lst (xs ++ [.non, .str "0"])) (nw_new (o := .lst [.non, .str "0"]) ht2) ht3
          walk_at "sx"
          refine ⟨.ref t3, one, done, rfl, hdone _ (s1618.trans s19), .inr ⟨t3, xs ++ [.non, .str "0"], ((ns.take i).map D.int ++ [od]) ++ ((ns.drop i).map D.int ++ [.non, .str "0"]), rfl, .inl upd_same, by rw [List.length_append]; show _ + 2 ≤ _; omega, ?_, .inl ⟨i, od, bent_at l1, hodn, fun j c hj hc => ints_all (bent_pre l1 hj hc), fun v3 H20 s20 hv3 => ?_⟩⟩⟩
          · rw [← List.append_assoc]
            exact DvL.append (dv15.mono ((s16.trans s1618).trans s19)) ⟨_, _, rfl, rfl, _, _, rfl, rfl, rfl⟩
          · walk_at "sx"
            rename_i t4 ht4
            refine ⟨_, _, badW (.int i), rfl, hv3.mono (nw_new ht4), tup3 upd_same rfl rfl rfl, (show 1 + max 0 (max 0 (max 0 0)) < 8 by decide), fun H21 s21 => ?_⟩
            walk_at "sx"
            exact ⟨s16.trans (s1618.trans (s19.trans (s20.trans ((nw_new ht4).trans s21)))), _, _, rfl⟩
        · rintro σ H16 ⟨s16, w3, w4, rfl⟩
          walk_at "sx"
          refine r_listS (hg14.same (s15.trans s16)) fun l hl' => ?_
          walk_at "sx"
          have s17 := nw_new (o := .lst xs) hl'
          have dv17 := dv15.mono (s16.trans s17)
          refine ⟨_, _, .lst _, rfl, ⟨l, xs, rfl, upd_same, by omega, dv17⟩, ⟨b5, xs, rfl, s17 _ _ (s16 _ _ (s15 _ _ g14)), by omega, dv17⟩, ?_, fun H18 s18 => k H18⟩
          have := go_le hdep
          show 1 + D.depth.go _ < 8
          omega

/-! ### law -/
def sp_law (K : PySem.W.Frag) : Sp := fun vs H Q _ => ∃ (a : Addr) (ns : List Int), vs = [.ref a] ∧ SqL K H a (ns.map V.int) ∧ ns.length ≤ 63 ∧ ∀ H', Q (.bl true) H'
theorem ok_law (T : Txt K mg a d) : FnOk P w K mg base CX0 12 a.law d.law ["script"] (sp_law K) := by
  refine T.F_law.ok sc_law (fun vs H Q E h => ?_) (fun cdv A outer s H vs Q E hr h => ⟨_, (pss_cons (ps_set (i := 1) sc_law.nd rfl (by first | exact Or.inl rfl | exact Or.inr rfl) (pe_call (ok_law_store T) (hr.mono (by omega)) rfl T.g_law_store T.F_law_store.kp T.b_law_store .nil pass0 (pa_cons (pv 0) pa_nil)))
      (pss_cons (ps_set (i := 2) sc_law.nd rfl (by first | exact Or.inl rfl | exact Or.inr rfl) (pe_call (ok_law_members T) (hr.mono (by omega)) rfl T.g_law_members T.F_law_members.kp T.b_law_members .nil pass0 (pa_cons (pv 1) pa_nil)))
      (pss_cons (ps_set (i := 3) sc_law.nd rfl (by first | exact Or.inl rfl | exact Or.inr rfl) (pe_op (k_add K) pe_int (pe_call (ok_law_take T) (hr.mono (by omega)) rfl T.g_law_take T.F_law_take.kp T.b_law_take .nil pass0 (pa_cons (pv 1) (pa_cons pe_int pa_nil)))))
      (pss_cons (ps_set (i := 4) sc_law.nd rfl (by first | exact Or.inl rfl | exact Or.inr rfl) (pe_call (ok_law_form T) (hr.mono (by omega)) rfl T.g_law_form T.F_law_form.kp T.b_law_form .nil pass0 (pa_cons (pv 1) (pa_cons (pv 2) pa_nil))))
      (pss_cons (ps_set (i := 5) sc_law.nd rfl (by first | exact Or.inl rfl | exact Or.inr rfl) (pe_call (ok_law_due T) (hr.mono (by omega)) rfl T.g_law_due T.F_law_due.kp T.b_law_due .nil pass0 (pa_cons (pv 2) (pa_cons (pv 3) pa_nil))))
      (pss_cons (ps_set (i := 6) sc_law.nd rfl (by first | exact Or.inl rfl | exact Or.inr rfl) (pe_call (ok_law_answer T) (hr.mono (by omega)) rfl T.g_law_answer T.F_law_answer.kp T.b_law_answer .nil pass0 (pa_cons (pv 4) (pa_cons (pv 3) pa_nil))))
      (pss_cons (ps_if (PW.pt (pw_or (pt_not (pt_val (pe_call (ok_law_same T 8) (hr.mono (by omega)) rfl T.g_law_same T.F_law_same.kp T.b_law_same .nil pass0 (pa_cons (pv 6) (pa_cons (pv 5) pa_nil))))) (pw_or1 (pt_not (pt_val (pe_call (ok_law_same T 8) (hr.mono (by omega)) rfl T.g_law_same T.F_law_same.kp T.b_law_same .nil pass0 (pa_cons (pe_callTy (k_list K) (by rfl) T.m_list bt_list (pa_cons (pv 4) pa_nil)) (pa_cons (pv 2) pa_nil)))))))) (pss_one (ps_ret pe_bl)) pss_nil)
      (pss_cons (ps_expr (pe_bm PySem.F.plainAttrs_list PySem.F.slot_list_append PySem.F.type_list_append mt_append (pe_ix (k_ix K) (pv 6) pe_int (fun _ _ => rfl)) (pa_cons (pe_tup (pa_cons pe_int (pa_cons pe_int pa_nil))) pa_nil)))
      (pss_cons (ps_set (i := 7) sc_law.nd rfl (by first | exact Or.inl rfl | exact Or.inr rfl) (pe_slice (k_sl K) (pe_call (ok_law_members T) (hr.mono (by omega)) rfl T.g_law_members T.F_law_members.kp T.b_law_members .nil pass0 (pa_cons (pv 1) pa_nil)) po_none (po_some pe_int)))
      (pss_cons (ps_set (i := 8) sc_law.nd rfl (by first | exact Or.inl rfl | exact Or.inr rfl) (pe_op (k_add K) pe_int (pe_call (ok_law_take T) (hr.mono (by omega)) rfl T.g_law_take T.F_law_take.kp T.b_law_take .nil pass0 (pa_cons (pv 1) (pa_cons pe_int pa_nil)))))
      (pss_cons (ps_if (pt_not (pt_val (pe_call (ok_law_same T 8) (hr.mono (by omega)) rfl T.g_law_same T.F_law_same.kp T.b_law_same .nil pass0 (pa_cons (pe_callN0 (ok_windows T) (hr.mono (by omega)) rfl T.g_windows T.F_windows.kp T.kb_0 passL (pk_cons (pv 8) (pk_cons (pv 7) pk_nil))) (pa_cons (pe_ix (k_ix K) (pe_call (ok_law_due T) (hr.mono (by omega)) rfl T.g_law_due T.F_law_due.kp T.b_law_due .nil pass0 (pa_cons (pv 7) (pa_cons (pv 8) pa_nil))) pe_int (fun _ _ => rfl)) pa_nil))))) (pss_one (ps_ret pe_bl)) pss_nil)
      (pss_cons (ps_for PassesOwn.never rfl (kp_tup K (pe_tup (pa_cons pe_int (pa_cons pe_int (pa_cons pe_int (pa_cons pe_int (pa_cons pe_int pa_nil))))))) (pg_name (i := 9) sc_law.nd rfl (by first | exact Or.inl rfl | exact Or.inr rfl)) (pss_cons (ps_if (pt_not (pt_val (pe_call (ok_law_same T 8) (hr.mono (by omega)) rfl T.g_law_same T.F_law_same.kp T.b_law_same .nil pass0 (pa_cons (pe_call (ok_law_answer T) (hr.mono (by omega)) rfl T.g_law_answer T.F_law_answer.kp T.b_law_answer .nil pass0 (pa_cons (pe_callTy (k_tup K) (by rfl) T.m_tuple bt_tuple (pa_cons (pe_slice (k_sl K) (pv 2) po_none (po_some (pv 9))) pa_nil)) (pa_cons (pv 9) pa_nil))) (pa_cons (pe_call (ok_law_due T) (hr.mono (by omega)) rfl T.g_law_due T.F_law_due.kp T.b_law_due .nil pass0 (pa_cons (pe_slice (k_sl K) (pv 2) po_none (po_some (pv 9))) (pa_cons (pv 9) pa_nil))) pa_nil))))) (pss_one (ps_ret pe_bl)) pss_nil)
      (pss_one (ps_if (pt_not (pt_val (pe_call (ok_law_same T 8) (hr.mono (by omega)) rfl T.g_law_same T.F_law_same.kp T.b_law_same .nil pass0 (pa_cons (pe_call (ok_law_answer T) (hr.mono (by omega)) rfl T.g_law_answer T.F_law_answer.kp T.b_law_answer .nil pass0 (pa_cons (pe_slice (k_sl K) (pv 2) po_none (po_some (pe_op op_sub (pv 9) pe_int))) (pa_cons (pv 9) pa_nil))) (pa_cons (pe_tup (pa_cons pe_str (pa_cons (pe_lst pa_nil) pa_nil))) pa_nil))))) (pss_one (ps_ret pe_bl)) pss_nil))))
      (pss_cons (ps_if (pt_not (pt_val (pe_call (ok_law_same T 8) (hr.mono (by omega)) rfl T.g_law_same T.F_law_same.kp T.b_law_same .nil pass0 (pa_cons (pe_call (ok_law_answer T) (hr.mono (by omega)) rfl T.g_law_answer T.F_law_answer.kp T.b_law_answer .nil pass0 (pa_cons (pv 4) (pa_cons (pv 3) pa_nil))) (pa_cons (pv 5) pa_nil))))) (pss_one (ps_ret pe_bl)) pss_nil)
      (pss_cons (ps_if (pt_val (pe_callB (k_isi K) (by rfl) T.m_isinstance bt_isinstance (pa_cons (pv 4) (pa_cons (pe_bltn (v := .ty "list") rfl T.m_list bt_list rfl) pa_nil)))) (pss_cons (ps_expr (pe_bm PySem.F.plainAttrs_list PySem.F.slot_list_append PySem.F.type_list_append mt_append (pv 4) (pa_cons pe_int pa_nil)))
      (pss_one (ps_if (pt_not (pt_val (pe_call (ok_law_same T 8) (hr.mono (by omega)) rfl T.g_law_same T.F_law_same.kp T.b_law_same .nil pass0 (pa_cons (pe_call (ok_law_answer T) (hr.mono (by omega)) rfl T.g_law_answer T.F_law_answer.kp T.b_law_answer .nil pass0 (pa_cons (pv 4) (pa_cons (pv 3) pa_nil))) (pa_cons (pe_call (ok_law_due T) (hr.mono (by omega)) rfl T.g_law_due T.F_law_due.kp T.b_law_due .nil pass0 (pa_cons (pe_op (k_add K) (pv 2) (pe_lst (pa_cons pe_int pa_nil))) (pa_cons (pv 3) pa_nil))) pa_nil))))) (pss_one (ps_ret pe_bl)) pss_nil))) pss_nil)
      (pss_one (ps_ret (pe_call (ok_law_refuses T) (hr.mono (by omega)) rfl T.g_law_refuses T.F_law_refuses.kp T.b_law_refuses .nil pass0 (pa_cons (pv 1) (pa_cons (pe_slice (k_sl K) (pv 2) po_none (po_some pe_int)) (pa_cons (pv 3) pa_nil)))))))))))))))))))), ?_⟩)
  · obtain ⟨a, ns, rfl, _⟩ := h
    rfl
  · obtain ⟨x, ss, rfl, hx, hl, k⟩ := h
    have zl : sizeLine = 16777216 := sizeLine_eq
    walk_at "sx"
    refine ⟨x, ss, rfl, hx, hl, fun p c H1 hp s1 S1 => ?_⟩
    walk_at "sx"
    refine ⟨_, _, rfl, S1, fun r ns H2 hr2 hr nl sb2 S2 => ?_⟩
    walk_at "sx"
    refine ⟨_, _, _, rfl, S2, by decide, fun t H3 t0 _ t1 sb3 S3 => ?_⟩
    have t5 := t1 (by decide)
    walk_at "sx"
    obtain ⟨s, hs, s2, s6⟩ : ∃ s : Nat, 2 + t = (s : Int) ∧ 2 ≤ s ∧ s ≤ 6 := ⟨(2 + t).toNat, by omega, by omega, by omega⟩
    rw [hs]
    have nrp : r ≠ p := (S1.ne hr2).1
    have hr3 := sb3 _ _ nrp hr
    refine ⟨_, _, _, _, rfl, S3, nrp, .inl hr3, fun q H4 hF nqp sb4 S4 => ?_⟩
    have hr4 := sb4 _ _ nrp hr3
    walk_at "sx"
    refine ⟨_, _, _, rfl, hr4, by omega, s2, s6, fun u ul H5 hu0 hul0 s5 hu hul => ?_⟩
    walk_at "sx"
    have hq4 : SeqAt' H4 q (ns.map V.int) := hF.elim (fun h => .inl h.1) .inr
    refine ⟨.ref q, .int s, .int s, rfl, rfl, .inr ⟨q, _, ns.map D.int, rfl, hq4.same s5, by rw [List.length_map]; omega, dv_ints ns, .inr ⟨fun j c h => ints_all h, fun e => absurd ((span_in s2 s6).symm.trans e) (by decide), fun s' e _ _ v vl H6 hv0 hvl0 s6' hv hvl => ?_⟩⟩⟩
    obtain rfl : s = s' := by injection e with e; omega
    walk_at "sx"
    refine ⟨_, _, _, rfl, dv_good hv hvl, dv_good (s6' _ _ hu) (hul.mono s6'), depth_good _ _, fun H7 s7 => ?_⟩
    walk_at "sx"
    have s57 := s6'.trans s7
    have S5 := S4.keep s5
    have hr7 := s57 _ _ (s5 _ _ hr4)
    refine r_listS ((hq4.same s5).same s57) fun g hg => ?_
    walk_at "sx"
    refine ⟨_, _, .lst (ns.map D.int), rfl, ⟨g, _, rfl, upd_same, by rw [List.length_map]; omega, dv_ints ns⟩, nw_dv hg ⟨r, _, rfl, hr7, by rw [List.length_map]; omega, dv_ints ns⟩, depth_row _, fun H8 s8 => ?_⟩
    have s78 : Same H7 H8 := (nw_new hg).trans s8
    have hv8 := s78 _ _ (s7 _ _ hv)
    obtain ⟨_, acc, e0, hacc, _, hav⟩ := id hvl
    cases e0
    have hacc8 := s78 _ _ (s7 _ _ hacc)
    have hal : acc.length < sizeLine := by
      have e1 := DvL.length hav
      unfold winD at e1
      rw [List.length_map, List.length_range, List.length_map] at e1
      omega
    walk_at "sx"
    rename_i tt htt
    have sA : Same H5 (upd (upd H8 tt (.tup [.int 0, .int 0])) vl (.lst (acc ++ [.ref tt]))) := same_mut ((s57.trans s78).trans (nw_new htt)) hvl0
    have SA : Sto (upd (upd H8 tt (.tup [.int 0, .int 0])) vl (.lst (acc ++ [.ref tt]))) p c := (((S5.keep s57).keep s78).keep (nw_new htt)).mut (S5.ne hvl0).1 (S5.ne hvl0).2
    generalize upd (upd H8 tt (.tup [.int 0, .int 0])) vl (.lst (acc ++ [.ref tt])) = H9 at sA SA ⊢
    refine ⟨_, _, rfl, SA, fun o ms H10 ho0 ho nl2 sb10 S10 => ?_⟩
    walk_at "sx"
    refine r_slL (SqL.of ho) fun o2 ho2 => ?_
    have S11 := S10.keep (nw_new (o := .lst (cutV (ms.map V.int) none (some 20))) ho2)
    walk_at "sx"
    refine ⟨_, _, _, rfl, S11, by decide, fun t2 H12 t20 _ t21 sb12 S12 => ?_⟩
    have t25 := t21 (by decide)
    walk_at "sx"
    obtain ⟨z, hz, z2, z6⟩ : ∃ z : Nat, 2 + t2 = (z : Int) ∧ 2 ≤ z ∧ z ≤ 6 := ⟨(2 + t2).toNat, by omega, by omega, by omega⟩
    rw [hz]
    have ho12 : H12 o2 = some (.lst ((ms.take 20).map V.int)) := by
      rw [List.map_take, ← cut_to (xs := ms.map V.int) (k := 20)]
      exact sb12 _ _ (S10.ne ho2).1 upd_same
    refine ⟨rfl, rfl, .ref o2, .int z, .int z, rfl, rfl, .inr ⟨o2, _, (ms.take 20).map D.int, rfl, .inl ho12, by rw [List.length_map, List.length_take]; omega, dv_ints _, .inr ⟨fun j c h => ints_all h, fun e => absurd ((span_in z2 z6).symm.trans e) (by decide), fun z' e _ _ y H13 hy s13 hyv => ?_⟩⟩⟩
    obtain rfl : z = z' := by injection e with e; omega
    walk_at "sx"
    refine ⟨_, _, _, rfl, s13 _ _ ho12, by rw [List.length_take]; omega, z2, z6, fun u2 ul2 H14 _ _ s14 hu2 hul2 => ?_⟩
    walk_at "sx"
    refine ⟨_, _, _, rfl, hyv.mono s14, hul2, depth_wins _ _, fun H15 s15 => ?_⟩
    walk_at "sx"
    rename_i T0 hT0
    have sB5 : SB p H5 H15 := (((SB.of sA).trans (sb10.trans (SB.of (nw_new ho2)))).trans sb12).trans (SB.of ((s13.trans s14).trans s15))
    have sB : SB p H4 H15 := (SB.of s5).trans sB5
    have SC := ((S12.keep s13).keep s14).keep s15
    generalize hHT : upd H15 T0 _ = HT
    have sT : Same H15 HT := by rw [← hHT]; exact nw_new hT0
    have hT : HT T0 = some (.tup [.int 2, .int 3, .int 4, .int 5, .int 6]) := by rw [← hHT]; exact upd_same
    have hrT : HT r = some (.lst (ns.map V.int)) := sT _ _ (sB _ _ nrp hr4)
    refine f_tup (xs := [.int 2, .int 3, .int 4, .int 5, .int 6]) (fun i σ H' => Same HT H' ∧ ∃ w, σ = [some (.ref x), some (.ref p), some (.ref r), some (.int s), some (.ref q), some (.ref u), some (.ref v), some (.ref o2), some (.int z), w]) ⟨Same.refl _, _, rfl⟩ (fun i σ' H' _ h => SqT.of (h.1 _ _ hT)) ?_ ?_
    · rintro i y σ H16 hy ⟨sI, w, rfl⟩
      obtain ⟨b, rfl, b2, b6⟩ : ∃ b : Nat, y = .int b ∧ 2 ≤ b ∧ b ≤ 6 := by
        have h := List.mem_of_getElem? hy
        simp only [List.mem_cons, List.not_mem_nil, or_false] at h
        rcases h with rfl | rfl | rfl | rfl | rfl
        · exact ⟨2, rfl, by decide, by decide⟩
        · exact ⟨3, rfl, by decide, by decide⟩
        · exact ⟨4, rfl, by decide, by decide⟩
        · exact ⟨5, rfl, by decide, by decide⟩
        · exact ⟨6, rfl, by decide, by decide⟩
      have hr16 := sI _ _ hrT
      walk_at "sx"
      refine r_slL (SqL.of hr16) fun a1 ha1 => ?_
      rw [cut_to, ← List.map_take]
      walk_at "sx"
      refine r_tupL (SqL.of upd_same) fun a2 ha2 => ?_
      walk_at "sx"
      have sJ : Same H16 (upd (upd H16 a1 (.lst ((ns.take b).map V.int))) a2 (.tup ((ns.take b).map V.int))) := nw_up (nw_new ha1) ha2
      refine ⟨.ref a2, .int b, .int b, rfl, rfl, .inr ⟨a2, _, (ns.take b).map D.int, rfl, .inr upd_same, by rw [List.length_map, List.length_take]; omega, dv_ints _, .inr ⟨fun j c h => ints_all h, fun e => absurd ((span_in b2 b6).symm.trans e) (by decide), fun b' e _ _ y1 yl1 H17 _ _ s17 hy1 hyl1 => ?_⟩⟩⟩
      obtain rfl : b = b' := by injection e with e; omega
      have hr17 := s17 _ _ (sJ _ _ hr16)
      walk_at "sx"
      refine r_slL (SqL.of hr17) fun a3 ha3 => ?_
      rw [cut_to, ← List.map_take]
      walk_at "sx"
      refine ⟨_, _, _, rfl, upd_same, by rw [List.length_take]; omega, b2, b6, fun y2 yl2 H18 _ _ s18 hy2 hyl2 => ?_⟩
      have s78' := (nw_new (o := .lst ((ns.take b).map V.int)) ha3).trans s18
      walk_at "sx"
      refine ⟨_, _, _, rfl, dv_good (s78' _ _ hy1) (hyl1.mono s78'), dv_good hy2 hyl2, depth_good _ _, fun H19 s19 => ?_⟩
      have sK := ((sJ.trans s17).trans s78').trans s19
      have hr19 := sK _ _ hr16
      walk_at "sx"
      rw [show ((b : Int) - 1) = ((b - 1 : Nat) : Int) by omega]
      refine r_slL (SqL.of hr19) fun a4 ha4 => ?_
      rw [cut_to, ← List.map_take]
      have s20 := nw_new (o := .lst ((ns.take (b - 1)).map V.int)) ha4
      walk_at "sx"
      refine ⟨.ref a4, .int b, .int b, rfl, rfl, .inr ⟨a4, _, (ns.take (b - 1)).map D.int, rfl, .inl upd_same, by rw [List.length_map, List.length_take]; omega, dv_ints _, .inr ⟨fun j c h => ints_all h, fun e => absurd ((span_in b2 b6).symm.trans e) (by decide), fun b' e _ _ y3 yl3 H20 _ _ s21 hy3 hyl3 => ?_⟩⟩⟩
      obtain rfl : b = b' := by injection e with e; omega
      have ew : winD b ((ns.take (b - 1)).map D.int) = [] := by
        unfold winD
        rw [List.length_map, List.length_take, show min (b - 1) ns.length + 1 - b = 0 by omega]
        rfl
      rw [ew] at hyl3
      walk_at "sx"
      rename_i a5 ha5 a6 ha6
      have s22 : Same H20 (upd (upd H20 a5 (.lst [])) a6 (.tup [.str "good", .ref a5])) := nw_up (nw_new ha5) ha6
      refine ⟨_, _, _, rfl, dv_good (s22 _ _ hy3) (hyl3.mono s22), dv_good upd_same ⟨a5, [], rfl, nw_new ha6 _ _ upd_same, by decide, rfl⟩, by decide, fun H21 s23 => ?_⟩
      walk_at "sx"
      exact ⟨sI.trans (((sK.trans s20).trans s21).trans (s22.trans s23)), _, rfl⟩
    · rintro σ H16 ⟨sI, w, rfl⟩
      have sD : SB p H4 H16 := sB.trans (SB.of (sT.trans sI))
      have SD := (SC.keep sT).keep sI
      have hq16 : SeqAt' H16 q (ns.map V.int) := hq4.keep fun o ho => sD _ _ nqp ho
      have due16 : Dv H16 (.ref u) (.tup [.str "good", .lst (winD s (ns.map D.int))]) := by
        obtain ⟨l5, hp5⟩ := S5.at
        obtain ⟨_, ws, e0, hul1, hul2, hul3⟩ := id hul
        cases e0
        have h5 : Dv (wo p H5) (.ref u) (.tup [.str "good", .lst (winD s (ns.map D.int))]) := dv_good (wo_at hu (S4.ne hu0).1) ⟨ul, ws, rfl, wo_at hul1 (S4.ne hul0).1, hul2, DvL.wo' hp5 (noL_win s ns) hul3⟩
        exact (h5.mono (sB5.trans (SB.of (sT.trans sI))).wo).mono wo_sub
      have hr16 := sI _ _ hrT
      have hlm : (ns.map V.int).length = ns.length := List.length_map _
      walk_at "sx"
      refine ⟨.ref q, .int s, .int s, rfl, rfl, .inr ⟨q, _, ns.map D.int, rfl, hq16, by rw [List.length_map]; omega, dv_ints ns, .inr ⟨fun j c h => ints_all h, fun e => absurd ((span_in s2 s6).symm.trans e) (by decide), fun s' e _ _ y1 yl1 H17 _ _ s17 hy1 hyl1 => ?_⟩⟩⟩
      obtain rfl : s = s' := by injection e with e; omega
      walk_at "sx"
      refine ⟨_, _, _, rfl, dv_good hy1 hyl1, due16.mono s17, depth_good _ _, fun H18 s18 => ?_⟩
      have s68 := s17.trans s18
      have hr18 := s68 _ _ hr16
      have SE := SD.keep s68
      rcases hF with ⟨hq4', hq30⟩ | hq4'
      · have hq18 := s68 _ _ (sD _ _ nqp hq4')
        have hdq : Dv H18 (.ref q) (.lst (ns.map D.int)) := ⟨q, _, rfl, hq18, by omega, dv_ints ns⟩
        walk_at "sx"
        have em : ns.map V.int ++ [V.int 5] = (ns ++ [5]).map V.int := by rw [List.map_append]; rfl
        rw [em]
        have nrq : r ≠ q := nw_ne hq30 hr3
        have SF := SE.mut (o := .lst ((ns ++ [5]).map V.int)) nqp (S3.ne hq30).2
        have hrF : upd H18 q (.lst ((ns ++ [5]).map V.int)) r = some (.lst (ns.map V.int)) := (upd_ne nrq).trans hr18
        have hqF : upd H18 q (.lst ((ns ++ [5]).map V.int)) q = some (.lst ((ns ++ [5]).map V.int)) := upd_same
        generalize upd H18 q (.lst ((ns ++ [5]).map V.int)) = HF at SF hrF hqF ⊢
        have hn5 : (ns ++ [5]).length = ns.length + 1 := by rw [List.length_append]; rfl
        refine ⟨.ref q, .int s, .int s, rfl, rfl, .inr ⟨q, _, (ns ++ [5]).map D.int, rfl, .inl hqF, by rw [List.length_map]; omega, dv_ints _, .inr ⟨fun j c h => ints_all h, fun e => absurd ((span_in s2 s6).symm.trans e) (by decide), fun s' e _ _ y2 yl2 H20 _ _ s20 hy2 hyl2 => ?_⟩⟩⟩
        obtain rfl : s = s' := by injection e with e; omega
        have hr20 := s20 _ _ hrF
        walk_at "sx"
        rename_i b5 hb5
        refine r_addL' (nw_new hb5 _ _ hr20) upd_same (by rw [List.length_map]; show ns.length + 1 ≤ _; omega) fun b6 hb6 => ?_
        have s21 : Same H20 (upd (upd H20 b5 (.lst [.int 5])) b6 (.lst (ns.map V.int ++ [.int 5]))) := nw_up (nw_new hb5) hb6
        rw [em] at s21 ⊢
        walk_at "sx"
        refine ⟨_, _, _, rfl, upd_same, by omega, s2, s6, fun y4 yl4 H22 _ _ s22 hy4 hyl4 => ?_⟩
        have s02 := s21.trans s22
        walk_at "sx"
        refine ⟨_, _, _, rfl, dv_good (s02 _ _ hy2) (hyl2.mono s02), dv_good hy4 hyl4, depth_good _ _, fun H23 s23 => ?_⟩
        have s03 := (s20.trans s02).trans s23
        have hr23 := s03 _ _ hrF
        have SG := SF.keep s03
        walk_at "sx"
        refine r_slL (SqL.of hr23) fun z1 hz1 => ?_
        rw [show (some (40 : Int)) = some ((40 : Nat) : Int) from rfl, cut_to, ← List.map_take]
        walk_at "sx"
        refine ⟨p, c, z1, ns.take 40, s, rfl, SG.keep (nw_new hz1), (SG.ne hz1).1, upd_same, by rw [List.length_take]; omega, s2, s6, fun H' => ?_⟩
        exact k H'
      · have hq18 := s68 _ _ (sD _ _ nqp hq4')
        have hdq : Dv H18 (.ref q) (.tup (ns.map D.int)) := ⟨q, _, rfl, hq18, by omega, dv_ints ns⟩
        walk_at "sx"
        refine r_slL (SqL.of hr18) fun z1 hz1 => ?_
        rw [show (some (40 : Int)) = some ((40 : Nat) : Int) from rfl, cut_to, ← List.map_take]
        walk_at "sx"
        refine ⟨p, c, z1, ns.take 40, s, rfl, SE.keep (nw_new hz1), (SE.ne hz1).1, upd_same, by rw [List.length_take]; omega, s2, s6, fun H' => ?_⟩
        exact k H'

end
def dd_is_whole : DefE := ⟨fun K => He.fAd K ("is_whole", none), "is_whole", "is_whole", defArgs s_is_whole, defBody s_is_whole, defScope s_is_whole, []⟩
def dd_is_sequence : DefE := ⟨fun K => He.fAd K ("is_sequence", none), "is_sequence", "is_sequence", defArgs s_is_sequence, defBody s_is_sequence, defScope s_is_sequence, []⟩
def dd_is_between : DefE := ⟨fun K => He.fAd K ("is_between", none), "is_between", "is_between", defArgs s_is_between, defBody s_is_between, defScope s_is_between, []⟩
def dd_BadWeb__init__ : DefE := ⟨fun K => He.fAd K ("BadWeb", some "__init__"), "__init__", "BadWeb.__init__", defArgs s_BadWeb__init__, defBody s_BadWeb__init__, defScope s_BadWeb__init__, []⟩
def dd_BadOrder__init__ : DefE := ⟨fun K => He.fAd K ("BadOrder", some "__init__"), "__init__", "BadOrder.__init__", defArgs s_BadOrder__init__, defBody s_BadOrder__init__, defScope s_BadOrder__init__, []⟩
def dd_BadWalk__init__ : DefE := ⟨fun K => He.fAd K ("BadWalk", some "__init__"), "__init__", "BadWalk.__init__", defArgs s_BadWalk__init__, defBody s_BadWalk__init__, defScope s_BadWalk__init__, []⟩
def dd_TooMany__init__ : DefE := ⟨fun K => He.fAd K ("TooMany", some "__init__"), "__init__", "TooMany.__init__", defArgs s_TooMany__init__, defBody s_TooMany__init__, defScope s_TooMany__init__, []⟩
def dd_check_number : DefE := ⟨fun K => He.fAd K ("check_number", none), "check_number", "check_number", defArgs s_check_number, defBody s_check_number, defScope s_check_number, []⟩
def dd_is_place_pair : DefE := ⟨fun K => He.fAd K ("_is_place_pair", none), "_is_place_pair", "_is_place_pair", defArgs s_is_place_pair, defBody s_is_place_pair, defScope s_is_place_pair, []⟩
def dd_Web__init__ : DefE := ⟨fun K => He.fAd K ("Web", some "__init__"), "__init__", "Web.__init__", defArgs s_Web__init__, defBody s_Web__init__, defScope s_Web__init__, [.adr (He.dflAt ("Web", some "__init__") 0)]⟩
def dd_is_rising_pair : DefE := ⟨fun K => He.fAd K ("_is_rising_pair", none), "_is_rising_pair", "_is_rising_pair", defArgs s_is_rising_pair, defBody s_is_rising_pair, defScope s_is_rising_pair, []⟩
def dd_reach_of : DefE := ⟨fun K => He.fAd K ("_reach_of", none), "_reach_of", "_reach_of", defArgs s_reach_of, defBody s_reach_of, defScope s_reach_of, []⟩
def dd_Order__init__ : DefE := ⟨fun K => He.fAd K ("Order", some "__init__"), "__init__", "Order.__init__", defArgs s_Order__init__, defBody s_Order__init__, defScope s_Order__init__, [.adr (He.dflAt ("Order", some "__init__") 0)]⟩
def dd_check_span : DefE := ⟨fun K => He.fAd K ("check_span", none), "check_span", "check_span", defArgs s_check_span, defBody s_check_span, defScope s_check_span, []⟩
def dd_windows : DefE := ⟨fun K => He.fAd K ("windows", none), "windows", "windows", defArgs s_windows, defBody s_windows, defScope s_windows, []⟩
def dd_law_mix : DefE := ⟨fun K => He.fAd K ("_law_mix", none), "_law_mix", "_law_mix", defArgs s_law_mix, defBody s_law_mix, defScope s_law_mix, []⟩
def dd_law_store : DefE := ⟨fun K => He.fAd K ("_law_store", none), "_law_store", "_law_store", defArgs s_law_store, defBody s_law_store, defScope s_law_store, []⟩
def dd_law_take : DefE := ⟨fun K => He.fAd K ("_law_take", none), "_law_take", "_law_take", defArgs s_law_take, defBody s_law_take, defScope s_law_take, []⟩
def dd_law_edge : DefE := ⟨fun K => He.fAd K ("_law_edge", none), "_law_edge", "_law_edge", defArgs s_law_edge, defBody s_law_edge, defScope s_law_edge, []⟩
def dd_law_row : DefE := ⟨fun K => He.fAd K ("_law_row", none), "_law_row", "_law_row", defArgs s_law_row, defBody s_law_row, defScope s_law_row, []⟩
def dd_law_form : DefE := ⟨fun K => He.fAd K ("_law_form", none), "_law_form", "_law_form", defArgs s_law_form, defBody s_law_form, defScope s_law_form, []⟩
def dd_law_odd : DefE := ⟨fun K => He.fAd K ("_law_odd", none), "_law_odd", "_law_odd", defArgs s_law_odd, defBody s_law_odd, defScope s_law_odd, []⟩
def dd_law_far : DefE := ⟨fun K => He.fAd K ("_law_far", none), "_law_far", "_law_far", defArgs s_law_far, defBody s_law_far, defScope s_law_far, []⟩
def dd_law_not_number : DefE := ⟨fun K => He.fAd K ("_law_not_number", none), "_law_not_number", "_law_not_number", defArgs s_law_not_number, defBody s_law_not_number, defScope s_law_not_number, []⟩
def dd_law_not_sequence : DefE := ⟨fun K => He.fAd K ("_law_not_sequence", none), "_law_not_sequence", "_law_not_sequence", defArgs s_law_not_sequence, defBody s_law_not_sequence, defScope s_law_not_sequence, []⟩
def dd_law_is_integer : DefE := ⟨fun K => He.fAd K ("_law_is_integer", none), "_law_is_integer", "_law_is_integer", defArgs s_law_is_integer, defBody s_law_is_integer, defScope s_law_is_integer, []⟩
def dd_law_same : DefE := ⟨fun K => He.fAd K ("_law_same", none), "_law_same", "_law_same", defArgs s_law_same, defBody s_law_same, defScope s_law_same, []⟩
def dd_law_answer : DefE := ⟨fun K => He.fAd K ("_law_answer", none), "_law_answer", "_law_answer", defArgs s_law_answer, defBody s_law_answer, defScope s_law_answer, []⟩
def dd_law_members : DefE := ⟨fun K => He.fAd K ("_law_members", none), "_law_members", "_law_members", defArgs s_law_members, defBody s_law_members, defScope s_law_members, []⟩
def dd_law_due : DefE := ⟨fun K => He.fAd K ("_law_due", none), "_law_due", "_law_due", defArgs s_law_due, defBody s_law_due, defScope s_law_due, []⟩
def dd_law_odd_member : DefE := ⟨fun K => He.fAd K ("_law_odd_member", none), "_law_odd_member", "_law_odd_member", defArgs s_law_odd_member, defBody s_law_odd_member, defScope s_law_odd_member, []⟩
def dd_law_refuses : DefE := ⟨fun K => He.fAd K ("_law_refuses", none), "_law_refuses", "_law_refuses", defArgs s_law_refuses, defBody s_law_refuses, defScope s_law_refuses, []⟩
def dd_law : DefE := ⟨fun K => He.fAd K ("law", none), "law", "law", defArgs s_law, defBody s_law, defScope s_law, []⟩
def fns : List DefE := [dd_is_whole, dd_is_sequence, dd_is_between, dd_BadWeb__init__, dd_BadOrder__init__, dd_BadWalk__init__, dd_TooMany__init__, dd_check_number, dd_is_place_pair, dd_Web__init__, dd_is_rising_pair, dd_reach_of, dd_Order__init__, dd_check_span, dd_windows, dd_law_mix, dd_law_store, dd_law_take, dd_law_edge, dd_law_row, dd_law_form, dd_law_odd, dd_law_far, dd_law_not_number, dd_law_not_sequence, dd_law_is_integer, dd_law_same, dd_law_answer, dd_law_members, dd_law_due, dd_law_odd_member, dd_law_refuses, dd_law]
def chs : List Ck := [cFa (.glo "is_whole"),
  cFa (.glo "is_sequence"),
  cFa (.glo "is_between"),
  cFa (.glo "check_number"),
  cFa (.glo "_is_place_pair"),
  dtB ("Web", some "__init__") 0,
  cFa (.glo "_is_rising_pair"),
  cFa (.glo "_reach_of"),
  dtB ("Order", some "__init__") 0,
  cFa (.glo "check_span"),
  cFa (.glo "windows"),
  cFa (.glo "_law_mix"),
  cFa (.glo "_law_store"),
  cFa (.glo "_law_take"),
  cFa (.glo "_law_edge"),
  cFa (.glo "_law_row"),
  cFa (.glo "_law_form"),
  cFa (.glo "_law_odd"),
  cFa (.glo "_law_far"),
  cFa (.glo "_law_not_number"),
  cFa (.glo "_law_not_sequence"),
  cFa (.glo "_law_is_integer"),
  cFa (.glo "_law_same"),
  cFa (.glo "_law_answer"),
  cFa (.glo "_law_members"),
  cFa (.glo "_law_due"),
  cFa (.glo "_law_odd_member"),
  cFa (.glo "_law_refuses"),
  cFa (.glo "law"),
  cFa (.int "LEAST_SPAN" 2),
  cFa (.int "MOST_ARROWS" 2000),
  cFa (.int "MOST_PLACES" 2000),
  cFa (.int "MOST_SPAN" 6),
  cFa (.int "MOST_THINGS" 200),
  cFa (.glo "Order"),
  cFa (.mkr "Order"),
  cIns "Order",
  cFa (.glo "Web"),
  cFa (.mkr "Web"),
  cIns "Web",
  cFa (.free "ValueError"),
  cFa (.free "bool"),
  cFa (.free "dict"),
  cFa (.free "enumerate"),
  cFa (.free "int"),
  cFa (.free "isinstance"),
  cFa (.free "len"),
  cFa (.free "list"),
  cFa (.free "max"),
  cFa (.free "min"),
  cFa (.free "range"),
  cFa (.free "sorted"),
  cFa (.free "str"),
  cFa (.free "tuple"),
  cFa (.noat "Order" "_reach"),
  cFa (.noat "Web" "_arrows"),
  cFa (.noat "Web" "_ins"),
  cFa (.noat "Web" "_known"),
  cFa (.noat "Web" "_outs"),
  cFa (.glo "BadNumber"),
  cFa (.keep "BadNumber"),
  cExC "BadNumber",
  cTy "BadNumber",
  cKv "BadNumber",
  cExc "BadNumber",
  cFa (.glo "BadOrder"),
  cFa (.keep "BadOrder"),
  cExC "BadOrder",
  cTy "BadOrder",
  cKv "BadOrder",
  cOex "BadOrder",
  cInit "BadOrder",
  cFa (.noat "BadOrder" "bad_at"),
  cFa (.glo "BadWalk"),
  cFa (.keep "BadWalk"),
  cExC "BadWalk",
  cTy "BadWalk",
  cKv "BadWalk",
  cOex "BadWalk",
  cInit "BadWalk",
  cFa (.noat "BadWalk" "bad_at"),
  cFa (.glo "BadWeb"),
  cFa (.keep "BadWeb"),
  cExC "BadWeb",
  cTy "BadWeb",
  cKv "BadWeb",
  cOex "BadWeb",
  cInit "BadWeb",
  cFa (.noat "BadWeb" "bad_at"),
  cFa (.glo "HueError"),
  cFa (.keep "HueError"),
  cExC "HueError",
  cTy "HueError",
  cKv "HueError",
  cExc "HueError",
  cFa (.glo "TooMany"),
  cFa (.keep "TooMany"),
  cExC "TooMany",
  cTy "TooMany",
  cKv "TooMany",
  cOex "TooMany",
  cInit "TooMany",
  cFa (.noat "TooMany" "most"),
  cFa (.exm "BadNumber" "BadNumber" true),
  cKit "BadNumber" "BadNumber" true,
  cFa (.exm "BadNumber" "BadOrder" false),
  cKit "BadNumber" "BadOrder" false,
  cFa (.exm "BadNumber" "BadWalk" false),
  cKit "BadNumber" "BadWalk" false,
  cFa (.exm "BadNumber" "BadWeb" false),
  cKit "BadNumber" "BadWeb" false,
  cFa (.exm "BadNumber" "HueError" true),
  cKit "BadNumber" "HueError" true,
  cFa (.exm "BadNumber" "TooMany" false),
  cKit "BadNumber" "TooMany" false,
  cFa (.exm "BadOrder" "BadNumber" false),
  cKit "BadOrder" "BadNumber" false,
  cFa (.exm "BadOrder" "BadOrder" true),
  cKit "BadOrder" "BadOrder" true,
  cFa (.exm "BadOrder" "BadWalk" false),
  cKit "BadOrder" "BadWalk" false,
  cFa (.exm "BadOrder" "BadWeb" false),
  cKit "BadOrder" "BadWeb" false,
  cFa (.exm "BadOrder" "HueError" true),
  cKit "BadOrder" "HueError" true,
  cFa (.exm "BadOrder" "TooMany" false),
  cKit "BadOrder" "TooMany" false,
  cFa (.exm "BadWalk" "BadNumber" false),
  cKit "BadWalk" "BadNumber" false,
  cFa (.exm "BadWalk" "BadOrder" false),
  cKit "BadWalk" "BadOrder" false,
  cFa (.exm "BadWalk" "BadWalk" true),
  cKit "BadWalk" "BadWalk" true,
  cFa (.exm "BadWalk" "BadWeb" false),
  cKit "BadWalk" "BadWeb" false,
  cFa (.exm "BadWalk" "HueError" true),
  cKit "BadWalk" "HueError" true,
  cFa (.exm "BadWalk" "TooMany" false),
  cKit "BadWalk" "TooMany" false,
  cFa (.exm "BadWeb" "BadNumber" false),
  cKit "BadWeb" "BadNumber" false,
  cFa (.exm "BadWeb" "BadOrder" false),
  cKit "BadWeb" "BadOrder" false,
  cFa (.exm "BadWeb" "BadWalk" false),
  cKit "BadWeb" "BadWalk" false,
  cFa (.exm "BadWeb" "BadWeb" true),
  cKit "BadWeb" "BadWeb" true,
  cFa (.exm "BadWeb" "HueError" true),
  cKit "BadWeb" "HueError" true,
  cFa (.exm "BadWeb" "TooMany" false),
  cKit "BadWeb" "TooMany" false,
  cFa (.exm "HueError" "BadNumber" false),
  cKit "HueError" "BadNumber" false,
  cFa (.exm "HueError" "BadOrder" false),
  cKit "HueError" "BadOrder" false,
  cFa (.exm "HueError" "BadWalk" false),
  cKit "HueError" "BadWalk" false,
  cFa (.exm "HueError" "BadWeb" false),
  cKit "HueError" "BadWeb" false,
  cFa (.exm "HueError" "HueError" true),
  cKit "HueError" "HueError" true,
  cFa (.exm "HueError" "TooMany" false),
  cKit "HueError" "TooMany" false,
  cFa (.exm "TooMany" "BadNumber" false),
  cKit "TooMany" "BadNumber" false,
  cFa (.exm "TooMany" "BadOrder" false),
  cKit "TooMany" "BadOrder" false,
  cFa (.exm "TooMany" "BadWalk" false),
  cKit "TooMany" "BadWalk" false,
  cFa (.exm "TooMany" "BadWeb" false),
  cKit "TooMany" "BadWeb" false,
  cFa (.exm "TooMany" "HueError" true),
  cKit "TooMany" "HueError" true,
  cFa (.exm "TooMany" "TooMany" true),
  cKit "TooMany" "TooMany" true]
def loose0 : List Str := ["_wall", "HueError", "BadWeb", "BadOrder", "BadWalk", "BadNumber", "TooMany", "is_whole", "is_sequence", "is_between", "check_number", "MOST_PLACES", "MOST_ARROWS", "Web", "_is_place_pair", "LEAST_SPAN", "MOST_SPAN", "windows", "check_span", "MOST_THINGS", "Order", "check_size", "things_in", "_is_rising_pair", "_reach_of", "_next_above", "_covers_beside", "_law_mix", "_law_store", "_law_take"]
def loose1 : List Str := ["_law_edge", "_law_row", "_law_form", "_law_odd", "_law_far", "_law_not_number", "_law_not_sequence", "_law_is_integer", "_law_same", "_law_answer", "_law_members", "_law_due", "_law_odd_member", "_law_refuses"]
def loose : List Str := loose0 ++ loose1
abbrev R : PySem.W.OpenRow := PySem.W.OpenLaw.row PySem.Challenge.rw_huewalks_k08_windows
abbrev hk : PySem.W.Hook := hookB 6 chs fns
def ob (s : PySem.W.SharedT) : AlB := obsBG 6 chs fns (HandSHeadRun.getT s)
theorem ob_eq (s : PySem.W.SharedT) : ob s = hk.obs s.abs := obsBG_eq (HandSHeadRun.getT_eq s)
theorem run (w : World) : HandSHeadRun.RunEq R (PySem.W.view R.prog [50]) hk ob 4000 loose w := by
  intro os
  kernel_rfl
theorem facts {P : Program} {w : World} {K : PySem.W.Frag} {h : Heap} {mg : Str → Option Value} {f : Addr} (X : K.In h) (G : h.Ns mainGlobals mg) (hfa : mg ("law" : Str) = some (.ref f)) (c : SaysB chs fns K) :
    ∃ fd : FuncData, (∀ (s : Shared) (v : Value), BindsTo s fd ⟨[v], []⟩ [("script", v)]) ∧ ∀ base : Heap, K.In base → base.Ns mainGlobals mg → FnOk P w K mg base CX0 12 f fd ["script"] (sp_law K) := by
  obtain ⟨fd0, F0⟩ := c.def_ 0 (d := dd_is_whole) rfl
  obtain ⟨fd1, F1⟩ := c.def_ 1 (d := dd_is_sequence) rfl
  obtain ⟨fd2, F2⟩ := c.def_ 2 (d := dd_is_between) rfl
  obtain ⟨fd3, F3⟩ := c.def_ 3 (d := dd_BadWeb__init__) rfl
  obtain ⟨fd4, F4⟩ := c.def_ 4 (d := dd_BadOrder__init__) rfl
  obtain ⟨fd5, F5⟩ := c.def_ 5 (d := dd_BadWalk__init__) rfl
  obtain ⟨fd6, F6⟩ := c.def_ 6 (d := dd_TooMany__init__) rfl
  obtain ⟨fd7, F7⟩ := c.def_ 7 (d := dd_check_number) rfl
  obtain ⟨fd8, F8⟩ := c.def_ 8 (d := dd_is_place_pair) rfl
  obtain ⟨fd9, F9⟩ := c.def_ 9 (d := dd_Web__init__) rfl
  obtain ⟨fd10, F10⟩ := c.def_ 10 (d := dd_is_rising_pair) rfl
  obtain ⟨fd11, F11⟩ := c.def_ 11 (d := dd_reach_of) rfl
  obtain ⟨fd12, F12⟩ := c.def_ 12 (d := dd_Order__init__) rfl
  obtain ⟨fd13, F13⟩ := c.def_ 13 (d := dd_check_span) rfl
  obtain ⟨fd14, F14⟩ := c.def_ 14 (d := dd_windows) rfl
  obtain ⟨fd15, F15⟩ := c.def_ 15 (d := dd_law_mix) rfl
  obtain ⟨fd16, F16⟩ := c.def_ 16 (d := dd_law_store) rfl
  obtain ⟨fd17, F17⟩ := c.def_ 17 (d := dd_law_take) rfl
  obtain ⟨fd18, F18⟩ := c.def_ 18 (d := dd_law_edge) rfl
  obtain ⟨fd19, F19⟩ := c.def_ 19 (d := dd_law_row) rfl
  obtain ⟨fd20, F20⟩ := c.def_ 20 (d := dd_law_form) rfl
  obtain ⟨fd21, F21⟩ := c.def_ 21 (d := dd_law_odd) rfl
  obtain ⟨fd22, F22⟩ := c.def_ 22 (d := dd_law_far) rfl
  obtain ⟨fd23, F23⟩ := c.def_ 23 (d := dd_law_not_number) rfl
  obtain ⟨fd24, F24⟩ := c.def_ 24 (d := dd_law_not_sequence) rfl
  obtain ⟨fd25, F25⟩ := c.def_ 25 (d := dd_law_is_integer) rfl
  obtain ⟨fd26, F26⟩ := c.def_ 26 (d := dd_law_same) rfl
  obtain ⟨fd27, F27⟩ := c.def_ 27 (d := dd_law_answer) rfl
  obtain ⟨fd28, F28⟩ := c.def_ 28 (d := dd_law_members) rfl
  obtain ⟨fd29, F29⟩ := c.def_ 29 (d := dd_law_due) rfl
  obtain ⟨fd30, F30⟩ := c.def_ 30 (d := dd_law_odd_member) rfl
  obtain ⟨fd31, F31⟩ := c.def_ 31 (d := dd_law_refuses) rfl
  obtain ⟨fd32, F32⟩ := c.def_ 32 (d := dd_law) rfl
  have T : Txt K mg ⟨He.fAd K ("is_whole", none), He.fAd K ("is_sequence", none), He.fAd K ("is_between", none), He.fAd K ("BadWeb", some "__init__"), He.fAd K ("BadOrder", some "__init__"), He.fAd K ("BadWalk", some "__init__"), He.fAd K ("TooMany", some "__init__"), He.fAd K ("check_number", none), He.fAd K ("_is_place_pair", none), He.fAd K ("Web", some "__init__"), He.fAd K ("_is_rising_pair", none), He.fAd K ("_reach_of", none), He.fAd K ("Order", some "__init__"), He.fAd K ("check_span", none), He.fAd K ("windows", none), He.fAd K ("_law_mix", none), He.fAd K ("_law_store", none), He.fAd K ("_law_take", none), He.fAd K ("_law_edge", none), He.fAd K ("_law_row", none), He.fAd K ("_law_form", none), He.fAd K ("_law_odd", none), He.fAd K ("_law_far", none), He.fAd K ("_law_not_number", none), He.fAd K ("_law_not_sequence", none), He.fAd K ("_law_is_integer", none), He.fAd K ("_law_same", none), He.fAd K ("_law_answer", none), He.fAd K ("_law_members", none), He.fAd K ("_law_due", none), He.fAd K ("_law_odd_member", none), He.fAd K ("_law_refuses", none), He.fAd K ("law", none), He.ga K "BadNumber", He.ga K "BadOrder", He.ga K "BadWalk", He.ga K "BadWeb", He.ga K "HueError", He.ga K "Order", He.ga K "TooMany", He.ga K "Web", He.dflAt ("Web", some "__init__") 0 K, He.dflAt ("Order", some "__init__") 0 K⟩ ⟨fd0, fd1, fd2, fd3, fd4, fd5, fd6, fd7, fd8, fd9, fd10, fd11, fd12, fd13, fd14, fd15, fd16, fd17, fd18, fd19, fd20, fd21, fd22, fd23, fd24, fd25, fd26, fd27, fd28, fd29, fd30, fd31, fd32⟩ := {
    g_is_whole := He.glo_ok X G (c.ck 0 (f := cFa (.glo "is_whole")) rfl),
    F_is_whole := funD_fun F0,
    b_is_whole := FunD.bindsN F0 fun _ _ _ _ _ _ us hl => match us, hl with | [_], _ => rfl,
    g_is_sequence := He.glo_ok X G (c.ck 1 (f := cFa (.glo "is_sequence")) rfl),
    F_is_sequence := funD_fun F1,
    b_is_sequence := FunD.bindsN F1 fun _ _ _ _ _ _ us hl => match us, hl with | [_], _ => rfl,
    g_is_between := He.glo_ok X G (c.ck 2 (f := cFa (.glo "is_between")) rfl),
    F_is_between := funD_fun F2,
    b_is_between := FunD.bindsN F2 fun _ _ _ _ _ _ us hl => match us, hl with | [_, _, _], _ => rfl,
    F_BadWeb__init__ := funD_fun F3,
    b_BadWeb__init__ := FunD.bindsN F3 fun _ _ _ _ _ _ us hl => match us, hl with | [_, _], _ => rfl,
    F_BadOrder__init__ := funD_fun F4,
    b_BadOrder__init__ := FunD.bindsN F4 fun _ _ _ _ _ _ us hl => match us, hl with | [_, _], _ => rfl,
    F_BadWalk__init__ := funD_fun F5,
    b_BadWalk__init__ := FunD.bindsN F5 fun _ _ _ _ _ _ us hl => match us, hl with | [_, _], _ => rfl,
    F_TooMany__init__ := funD_fun F6,
    b_TooMany__init__ := FunD.bindsN F6 fun _ _ _ _ _ _ us hl => match us, hl with | [_, _], _ => rfl,
    g_check_number := He.glo_ok X G (c.ck 3 (f := cFa (.glo "check_number")) rfl),
    F_check_number := funD_fun F7,
    b_check_number := FunD.bindsN F7 fun _ _ _ _ _ _ us hl => match us, hl with | [_, _, _], _ => rfl,
    g_is_place_pair := He.glo_ok X G (c.ck 4 (f := cFa (.glo "_is_place_pair")) rfl),
    F_is_place_pair := funD_fun F8,
    b_is_place_pair := FunD.bindsN F8 fun _ _ _ _ _ _ us hl => match us, hl with | [_, _], _ => rfl,
    F_Web__init__ := F9,
    em_Web__init___0 := dtB_ok (c.ck 5 (f := dtB ("Web", some "__init__") 0) rfl),
    g_is_rising_pair := He.glo_ok X G (c.ck 6 (f := cFa (.glo "_is_rising_pair")) rfl),
    F_is_rising_pair := funD_fun F10,
    b_is_rising_pair := FunD.bindsN F10 fun _ _ _ _ _ _ us hl => match us, hl with | [_, _], _ => rfl,
    g_reach_of := He.glo_ok X G (c.ck 7 (f := cFa (.glo "_reach_of")) rfl),
    F_reach_of := funD_fun F11,
    b_reach_of := FunD.bindsN F11 fun _ _ _ _ _ _ us hl => match us, hl with | [_, _], _ => rfl,
    F_Order__init__ := F12,
    em_Order__init___0 := dtB_ok (c.ck 8 (f := dtB ("Order", some "__init__") 0) rfl),
    g_check_span := He.glo_ok X G (c.ck 9 (f := cFa (.glo "check_span")) rfl),
    F_check_span := funD_fun F13,
    b_check_span := FunD.bindsN F13 fun _ _ _ _ _ _ us hl => match us, hl with | [_], _ => rfl,
    g_windows := He.glo_ok X G (c.ck 10 (f := cFa (.glo "windows")) rfl),
    F_windows := funD_fun F14,
    b_windows := FunD.bindsN F14 fun _ _ _ _ _ _ us hl => match us, hl with | [_, _], _ => rfl,
    g_law_mix := He.glo_ok X G (c.ck 11 (f := cFa (.glo "_law_mix")) rfl),
    F_law_mix := funD_fun F15,
    b_law_mix := FunD.bindsN F15 fun _ _ _ _ _ _ us hl => match us, hl with | [_, _], _ => rfl,
    g_law_store := He.glo_ok X G (c.ck 12 (f := cFa (.glo "_law_store")) rfl),
    F_law_store := funD_fun F16,
    b_law_store := FunD.bindsN F16 fun _ _ _ _ _ _ us hl => match us, hl with | [_], _ => rfl,
    g_law_take := He.glo_ok X G (c.ck 13 (f := cFa (.glo "_law_take")) rfl),
    F_law_take := funD_fun F17,
    b_law_take := FunD.bindsN F17 fun _ _ _ _ _ _ us hl => match us, hl with | [_, _], _ => rfl,
    g_law_edge := He.glo_ok X G (c.ck 14 (f := cFa (.glo "_law_edge")) rfl),
    F_law_edge := funD_fun F18,
    b_law_edge := FunD.bindsN F18 fun _ _ _ _ _ _ us hl => match us, hl with | [_, _, _], _ => rfl,
    g_law_row := He.glo_ok X G (c.ck 15 (f := cFa (.glo "_law_row")) rfl),
    F_law_row := funD_fun F19,
    b_law_row := FunD.bindsN F19 fun _ _ _ _ _ _ us hl => match us, hl with | [_, _, _], _ => rfl,
    g_law_form := He.glo_ok X G (c.ck 16 (f := cFa (.glo "_law_form")) rfl),
    F_law_form := funD_fun F20,
    b_law_form := FunD.bindsN F20 fun _ _ _ _ _ _ us hl => match us, hl with | [_, _], _ => rfl,
    g_law_odd := He.glo_ok X G (c.ck 17 (f := cFa (.glo "_law_odd")) rfl),
    F_law_odd := funD_fun F21,
    b_law_odd := FunD.bindsN F21 fun _ _ _ _ _ _ us hl => match us, hl with | [_], _ => rfl,
    g_law_far := He.glo_ok X G (c.ck 18 (f := cFa (.glo "_law_far")) rfl),
    F_law_far := funD_fun F22,
    b_law_far := FunD.bindsN F22 fun _ _ _ _ _ _ us hl => match us, hl with | [_], _ => rfl,
    g_law_not_number := He.glo_ok X G (c.ck 19 (f := cFa (.glo "_law_not_number")) rfl),
    F_law_not_number := funD_fun F23,
    b_law_not_number := FunD.bindsN F23 fun _ _ _ _ _ _ us hl => match us, hl with | [_, _, _], _ => rfl,
    g_law_not_sequence := He.glo_ok X G (c.ck 20 (f := cFa (.glo "_law_not_sequence")) rfl),
    F_law_not_sequence := funD_fun F24,
    b_law_not_sequence := FunD.bindsN F24 fun _ _ _ _ _ _ us hl => match us, hl with | [_], _ => rfl,
    g_law_is_integer := He.glo_ok X G (c.ck 21 (f := cFa (.glo "_law_is_integer")) rfl),
    F_law_is_integer := funD_fun F25,
    b_law_is_integer := FunD.bindsN F25 fun _ _ _ _ _ _ us hl => match us, hl with | [_], _ => rfl,
    g_law_same := He.glo_ok X G (c.ck 22 (f := cFa (.glo "_law_same")) rfl),
    F_law_same := funD_fun F26,
    b_law_same := FunD.bindsN F26 fun _ _ _ _ _ _ us hl => match us, hl with | [_, _], _ => rfl,
    g_law_answer := He.glo_ok X G (c.ck 23 (f := cFa (.glo "_law_answer")) rfl),
    F_law_answer := funD_fun F27,
    b_law_answer := FunD.bindsN F27 fun _ _ _ _ _ _ us hl => match us, hl with | [_, _], _ => rfl,
    g_law_members := He.glo_ok X G (c.ck 24 (f := cFa (.glo "_law_members")) rfl),
    F_law_members := funD_fun F28,
    b_law_members := FunD.bindsN F28 fun _ _ _ _ _ _ us hl => match us, hl with | [_], _ => rfl,
    g_law_due := He.glo_ok X G (c.ck 25 (f := cFa (.glo "_law_due")) rfl),
    F_law_due := funD_fun F29,
    b_law_due := FunD.bindsN F29 fun _ _ _ _ _ _ us hl => match us, hl with | [_, _], _ => rfl,
    g_law_odd_member := He.glo_ok X G (c.ck 26 (f := cFa (.glo "_law_odd_member")) rfl),
    F_law_odd_member := funD_fun F30,
    b_law_odd_member := FunD.bindsN F30 fun _ _ _ _ _ _ us hl => match us, hl with | [_], _ => rfl,
    g_law_refuses := He.glo_ok X G (c.ck 27 (f := cFa (.glo "_law_refuses")) rfl),
    F_law_refuses := funD_fun F31,
    b_law_refuses := FunD.bindsN F31 fun _ _ _ _ _ _ us hl => match us, hl with | [_, _, _], _ => rfl,
    g_law := He.glo_ok X G (c.ck 28 (f := cFa (.glo "law")) rfl),
    F_law := funD_fun F32,
    b_law := FunD.bindsN F32 fun _ _ _ _ _ _ us hl => match us, hl with | [_], _ => rfl,
    c_LEAST_SPAN := He.int_ok X G (c.ck 29 (f := cFa (.int "LEAST_SPAN" 2)) rfl),
    c_MOST_ARROWS := He.int_ok X G (c.ck 30 (f := cFa (.int "MOST_ARROWS" 2000)) rfl),
    c_MOST_PLACES := He.int_ok X G (c.ck 31 (f := cFa (.int "MOST_PLACES" 2000)) rfl),
    c_MOST_SPAN := He.int_ok X G (c.ck 32 (f := cFa (.int "MOST_SPAN" 6)) rfl),
    c_MOST_THINGS := He.int_ok X G (c.ck 33 (f := cFa (.int "MOST_THINGS" 200)) rfl),
    g_Order := He.glo_ok X G (c.ck 34 (f := cFa (.glo "Order")) rfl),
    mk_Order := He.mkr_ok (c.ck 35 (f := cFa (.mkr "Order")) rfl),
    is_Order := insK_ok (c.ck 36 (f := cIns "Order") rfl),
    g_Web := He.glo_ok X G (c.ck 37 (f := cFa (.glo "Web")) rfl),
    mk_Web := He.mkr_ok (c.ck 38 (f := cFa (.mkr "Web")) rfl),
    is_Web := insK_ok (c.ck 39 (f := cIns "Web") rfl),
    m_ValueError := He.free_ok X G (c.ck 40 (f := cFa (.free "ValueError")) rfl),
    m_bool := He.free_ok X G (c.ck 41 (f := cFa (.free "bool")) rfl),
    m_dict := He.free_ok X G (c.ck 42 (f := cFa (.free "dict")) rfl),
    m_enumerate := He.free_ok X G (c.ck 43 (f := cFa (.free "enumerate")) rfl),
    m_int := He.free_ok X G (c.ck 44 (f := cFa (.free "int")) rfl),
    m_isinstance := He.free_ok X G (c.ck 45 (f := cFa (.free "isinstance")) rfl),
    m_len := He.free_ok X G (c.ck 46 (f := cFa (.free "len")) rfl),
    m_list := He.free_ok X G (c.ck 47 (f := cFa (.free "list")) rfl),
    m_max := He.free_ok X G (c.ck 48 (f := cFa (.free "max")) rfl),
    m_min := He.free_ok X G (c.ck 49 (f := cFa (.free "min")) rfl),
    m_range := He.free_ok X G (c.ck 50 (f := cFa (.free "range")) rfl),
    m_sorted := He.free_ok X G (c.ck 51 (f := cFa (.free "sorted")) rfl),
    m_str := He.free_ok X G (c.ck 52 (f := cFa (.free "str")) rfl),
    m_tuple := He.free_ok X G (c.ck 53 (f := cFa (.free "tuple")) rfl),
    na_Order__reach := He.noat_ok (c.ck 54 (f := cFa (.noat "Order" "_reach")) rfl),
    na_Web__arrows := He.noat_ok (c.ck 55 (f := cFa (.noat "Web" "_arrows")) rfl),
    na_Web__ins := He.noat_ok (c.ck 56 (f := cFa (.noat "Web" "_ins")) rfl),
    na_Web__known := He.noat_ok (c.ck 57 (f := cFa (.noat "Web" "_known")) rfl),
    na_Web__outs := He.noat_ok (c.ck 58 (f := cFa (.noat "Web" "_outs")) rfl),
    g_BadNumber := He.glo_ok X G (c.ck 59 (f := cFa (.glo "BadNumber")) rfl),
    k_BadNumber := He.keep_ok (c.ck 60 (f := cFa (.keep "BadNumber")) rfl),
    e_BadNumber := exCB_ok (c.ck 61 (f := cExC "BadNumber") rfl),
    ty_BadNumber := of_decide_eq_true (c.ck 62 (f := cTy "BadNumber") rfl),
    kv_BadNumber := of_decide_eq_true (c.ck 63 (f := cKv "BadNumber") rfl),
    n_BadNumber := (c.ck 64 (f := cExc "BadNumber") rfl),
    g_BadOrder := He.glo_ok X G (c.ck 65 (f := cFa (.glo "BadOrder")) rfl),
    k_BadOrder := He.keep_ok (c.ck 66 (f := cFa (.keep "BadOrder")) rfl),
    e_BadOrder := exCB_ok (c.ck 67 (f := cExC "BadOrder") rfl),
    ty_BadOrder := of_decide_eq_true (c.ck 68 (f := cTy "BadOrder") rfl),
    kv_BadOrder := of_decide_eq_true (c.ck 69 (f := cKv "BadOrder") rfl),
    o_BadOrder := oexB_ok (c.ck 70 (f := cOex "BadOrder") rfl),
    i_BadOrder := (ini_ok (c.ck 71 (f := cInit "BadOrder") rfl)).1,
    ti_BadOrder := (ini_ok (c.ck 71 (f := cInit "BadOrder") rfl)).2,
    nf_BadOrder_bad_at := He.noat_ok (c.ck 72 (f := cFa (.noat "BadOrder" "bad_at")) rfl),
    g_BadWalk := He.glo_ok X G (c.ck 73 (f := cFa (.glo "BadWalk")) rfl),
    k_BadWalk := He.keep_ok (c.ck 74 (f := cFa (.keep "BadWalk")) rfl),
    e_BadWalk := exCB_ok (c.ck 75 (f := cExC "BadWalk") rfl),
    ty_BadWalk := of_decide_eq_true (c.ck 76 (f := cTy "BadWalk") rfl),
    kv_BadWalk := of_decide_eq_true (c.ck 77 (f := cKv "BadWalk") rfl),
    o_BadWalk := oexB_ok (c.ck 78 (f := cOex "BadWalk") rfl),
    i_BadWalk := (ini_ok (c.ck 79 (f := cInit "BadWalk") rfl)).1,
    ti_BadWalk := (ini_ok (c.ck 79 (f := cInit "BadWalk") rfl)).2,
    nf_BadWalk_bad_at := He.noat_ok (c.ck 80 (f := cFa (.noat "BadWalk" "bad_at")) rfl),
    g_BadWeb := He.glo_ok X G (c.ck 81 (f := cFa (.glo "BadWeb")) rfl),
    k_BadWeb := He.keep_ok (c.ck 82 (f := cFa (.keep "BadWeb")) rfl),
    e_BadWeb := exCB_ok (c.ck 83 (f := cExC "BadWeb") rfl),
    ty_BadWeb := of_decide_eq_true (c.ck 84 (f := cTy "BadWeb") rfl),
    kv_BadWeb := of_decide_eq_true (c.ck 85 (f := cKv "BadWeb") rfl),
    o_BadWeb := oexB_ok (c.ck 86 (f := cOex "BadWeb") rfl),
    i_BadWeb := (ini_ok (c.ck 87 (f := cInit "BadWeb") rfl)).1,
    ti_BadWeb := (ini_ok (c.ck 87 (f := cInit "BadWeb") rfl)).2,
    nf_BadWeb_bad_at := He.noat_ok (c.ck 88 (f := cFa (.noat "BadWeb" "bad_at")) rfl),
    g_HueError := He.glo_ok X G (c.ck 89 (f := cFa (.glo "HueError")) rfl),
    k_HueError := He.keep_ok (c.ck 90 (f := cFa (.keep "HueError")) rfl),
    e_HueError := exCB_ok (c.ck 91 (f := cExC "HueError") rfl),
    ty_HueError := of_decide_eq_true (c.ck 92 (f := cTy "HueError") rfl),
    kv_HueError := of_decide_eq_true (c.ck 93 (f := cKv "HueError") rfl),
    n_HueError := (c.ck 94 (f := cExc "HueError") rfl),
    g_TooMany := He.glo_ok X G (c.ck 95 (f := cFa (.glo "TooMany")) rfl),
    k_TooMany := He.keep_ok (c.ck 96 (f := cFa (.keep "TooMany")) rfl),
    e_TooMany := exCB_ok (c.ck 97 (f := cExC "TooMany") rfl),
    ty_TooMany := of_decide_eq_true (c.ck 98 (f := cTy "TooMany") rfl),
    kv_TooMany := of_decide_eq_true (c.ck 99 (f := cKv "TooMany") rfl),
    o_TooMany := oexB_ok (c.ck 100 (f := cOex "TooMany") rfl),
    i_TooMany := (ini_ok (c.ck 101 (f := cInit "TooMany") rfl)).1,
    ti_TooMany := (ini_ok (c.ck 101 (f := cInit "TooMany") rfl)).2,
    nf_TooMany_most := He.noat_ok (c.ck 102 (f := cFa (.noat "TooMany" "most")) rfl),
    bm_0 := FunD.binds1 F12 2 0 (List.cons_ne_nil _ _) rfl fun _ _ _ _ _ _ _ us its h1 h2 => match us, its, h1, h2 with | [_, _], [_], _, _ => ⟨_, rfl, rfl⟩,
    bm_1 := FunD.binds1 F9 2 0 (List.cons_ne_nil _ _) rfl fun _ _ _ _ _ _ _ us its h1 h2 => match us, its, h1, h2 with | [_, _], [_], _, _ => ⟨_, rfl, rfl⟩,
    kb_0 := kbN (funD_fun (st := s_windows) (x := "windows") (qual := "windows") F14) (fun r1 r2 => .cons (vals_getD 1 r2) (.cons (vals_getD 0 r2) (.nil))) (fun _ _ _ _ _ _ us ws h1 h2 => match us, ws, h1, h2 with | [], [_, _], _, _ => rfl),
    exm_BadNumber_BadNumber := He.exm_ok (c.ck 103 (f := cFa (.exm "BadNumber" "BadNumber" true)) rfl),
    kit_BadNumber_BadNumber := of_decide_eq_true (c.ck 104 (f := cKit "BadNumber" "BadNumber" true) rfl),
    exm_BadNumber_BadOrder := He.exm_ok (c.ck 105 (f := cFa (.exm "BadNumber" "BadOrder" false)) rfl),
    kit_BadNumber_BadOrder := of_decide_eq_true (c.ck 106 (f := cKit "BadNumber" "BadOrder" false) rfl),
    exm_BadNumber_BadWalk := He.exm_ok (c.ck 107 (f := cFa (.exm "BadNumber" "BadWalk" false)) rfl),
    kit_BadNumber_BadWalk := of_decide_eq_true (c.ck 108 (f := cKit "BadNumber" "BadWalk" false) rfl),
    exm_BadNumber_BadWeb := He.exm_ok (c.ck 109 (f := cFa (.exm "BadNumber" "BadWeb" false)) rfl),
    kit_BadNumber_BadWeb := of_decide_eq_true (c.ck 110 (f := cKit "BadNumber" "BadWeb" false) rfl),
    exm_BadNumber_HueError := He.exm_ok (c.ck 111 (f := cFa (.exm "BadNumber" "HueError" true)) rfl),
    kit_BadNumber_HueError := of_decide_eq_true (c.ck 112 (f := cKit "BadNumber" "HueError" true) rfl),
    exm_BadNumber_TooMany := He.exm_ok (c.ck 113 (f := cFa (.exm "BadNumber" "TooMany" false)) rfl),
    kit_BadNumber_TooMany := of_decide_eq_true (c.ck 114 (f := cKit "BadNumber" "TooMany" false) rfl),
    exm_BadOrder_BadNumber := He.exm_ok (c.ck 115 (f := cFa (.exm "BadOrder" "BadNumber" false)) rfl),
    kit_BadOrder_BadNumber := of_decide_eq_true (c.ck 116 (f := cKit "BadOrder" "BadNumber" false) rfl),
    exm_BadOrder_BadOrder := He.exm_ok (c.ck 117 (f := cFa (.exm "BadOrder" "BadOrder" true)) rfl),
    kit_BadOrder_BadOrder := of_decide_eq_true (c.ck 118 (f := cKit "BadOrder" "BadOrder" true) rfl),
    exm_BadOrder_BadWalk := He.exm_ok (c.ck 119 (f := cFa (.exm "BadOrder" "BadWalk" false)) rfl),
    kit_BadOrder_BadWalk := of_decide_eq_true (c.ck 120 (f := cKit "BadOrder" "BadWalk" false) rfl),
    exm_BadOrder_BadWeb := He.exm_ok (c.ck 121 (f := cFa (.exm "BadOrder" "BadWeb" false)) rfl),
    kit_BadOrder_BadWeb := of_decide_eq_true (c.ck 122 (f := cKit "BadOrder" "BadWeb" false) rfl),
    exm_BadOrder_HueError := He.exm_ok (c.ck 123 (f := cFa (.exm "BadOrder" "HueError" true)) rfl),
    kit_BadOrder_HueError := of_decide_eq_true (c.ck 124 (f := cKit "BadOrder" "HueError" true) rfl),
    exm_BadOrder_TooMany := He.exm_ok (c.ck 125 (f := cFa (.exm "BadOrder" "TooMany" false)) rfl),
    kit_BadOrder_TooMany := of_decide_eq_true (c.ck 126 (f := cKit "BadOrder" "TooMany" false) rfl),
    exm_BadWalk_BadNumber := He.exm_ok (c.ck 127 (f := cFa (.exm "BadWalk" "BadNumber" false)) rfl),
    kit_BadWalk_BadNumber := of_decide_eq_true (c.ck 128 (f := cKit "BadWalk" "BadNumber" false) rfl),
    exm_BadWalk_BadOrder := He.exm_ok (c.ck 129 (f := cFa (.exm "BadWalk" "BadOrder" false)) rfl),
    kit_BadWalk_BadOrder := of_decide_eq_true (c.ck 130 (f := cKit "BadWalk" "BadOrder" false) rfl),
    exm_BadWalk_BadWalk := He.exm_ok (c.ck 131 (f := cFa (.exm "BadWalk" "BadWalk" true)) rfl),
    kit_BadWalk_BadWalk := of_decide_eq_true (c.ck 132 (f := cKit "BadWalk" "BadWalk" true) rfl),
    exm_BadWalk_BadWeb := He.exm_ok (c.ck 133 (f := cFa (.exm "BadWalk" "BadWeb" false)) rfl),
    kit_BadWalk_BadWeb := of_decide_eq_true (c.ck 134 (f := cKit "BadWalk" "BadWeb" false) rfl),
    exm_BadWalk_HueError := He.exm_ok (c.ck 135 (f := cFa (.exm "BadWalk" "HueError" true)) rfl),
    kit_BadWalk_HueError := of_decide_eq_true (c.ck 136 (f := cKit "BadWalk" "HueError" true) rfl),
    exm_BadWalk_TooMany := He.exm_ok (c.ck 137 (f := cFa (.exm "BadWalk" "TooMany" false)) rfl),
    kit_BadWalk_TooMany := of_decide_eq_true (c.ck 138 (f := cKit "BadWalk" "TooMany" false) rfl),
    exm_BadWeb_BadNumber := He.exm_ok (c.ck 139 (f := cFa (.exm "BadWeb" "BadNumber" false)) rfl),
    kit_BadWeb_BadNumber := of_decide_eq_true (c.ck 140 (f := cKit "BadWeb" "BadNumber" false) rfl),
    exm_BadWeb_BadOrder := He.exm_ok (c.ck 141 (f := cFa (.exm "BadWeb" "BadOrder" false)) rfl),
    kit_BadWeb_BadOrder := of_decide_eq_true (c.ck 142 (f := cKit "BadWeb" "BadOrder" false) rfl),
    exm_BadWeb_BadWalk := He.exm_ok (c.ck 143 (f := cFa (.exm "BadWeb" "BadWalk" false)) rfl),
    kit_BadWeb_BadWalk := of_decide_eq_true (c.ck 144 (f := cKit "BadWeb" "BadWalk" false) rfl),
    exm_BadWeb_BadWeb := He.exm_ok (c.ck 145 (f := cFa (.exm "BadWeb" "BadWeb" true)) rfl),
    kit_BadWeb_BadWeb := of_decide_eq_true (c.ck 146 (f := cKit "BadWeb" "BadWeb" true) rfl),
    exm_BadWeb_HueError := He.exm_ok (c.ck 147 (f := cFa (.exm "BadWeb" "HueError" true)) rfl),
    kit_BadWeb_HueError := of_decide_eq_true (c.ck 148 (f := cKit "BadWeb" "HueError" true) rfl),
    exm_BadWeb_TooMany := He.exm_ok (c.ck 149 (f := cFa (.exm "BadWeb" "TooMany" false)) rfl),
    kit_BadWeb_TooMany := of_decide_eq_true (c.ck 150 (f := cKit "BadWeb" "TooMany" false) rfl),
    exm_HueError_BadNumber := He.exm_ok (c.ck 151 (f := cFa (.exm "HueError" "BadNumber" false)) rfl),
    kit_HueError_BadNumber := of_decide_eq_true (c.ck 152 (f := cKit "HueError" "BadNumber" false) rfl),
    exm_HueError_BadOrder := He.exm_ok (c.ck 153 (f := cFa (.exm "HueError" "BadOrder" false)) rfl),
    kit_HueError_BadOrder := of_decide_eq_true (c.ck 154 (f := cKit "HueError" "BadOrder" false) rfl),
    exm_HueError_BadWalk := He.exm_ok (c.ck 155 (f := cFa (.exm "HueError" "BadWalk" false)) rfl),
    kit_HueError_BadWalk := of_decide_eq_true (c.ck 156 (f := cKit "HueError" "BadWalk" false) rfl),
    exm_HueError_BadWeb := He.exm_ok (c.ck 157 (f := cFa (.exm "HueError" "BadWeb" false)) rfl),
    kit_HueError_BadWeb := of_decide_eq_true (c.ck 158 (f := cKit "HueError" "BadWeb" false) rfl),
    exm_HueError_HueError := He.exm_ok (c.ck 159 (f := cFa (.exm "HueError" "HueError" true)) rfl),
    kit_HueError_HueError := of_decide_eq_true (c.ck 160 (f := cKit "HueError" "HueError" true) rfl),
    exm_HueError_TooMany := He.exm_ok (c.ck 161 (f := cFa (.exm "HueError" "TooMany" false)) rfl),
    kit_HueError_TooMany := of_decide_eq_true (c.ck 162 (f := cKit "HueError" "TooMany" false) rfl),
    exm_TooMany_BadNumber := He.exm_ok (c.ck 163 (f := cFa (.exm "TooMany" "BadNumber" false)) rfl),
    kit_TooMany_BadNumber := of_decide_eq_true (c.ck 164 (f := cKit "TooMany" "BadNumber" false) rfl),
    exm_TooMany_BadOrder := He.exm_ok (c.ck 165 (f := cFa (.exm "TooMany" "BadOrder" false)) rfl),
    kit_TooMany_BadOrder := of_decide_eq_true (c.ck 166 (f := cKit "TooMany" "BadOrder" false) rfl),
    exm_TooMany_BadWalk := He.exm_ok (c.ck 167 (f := cFa (.exm "TooMany" "BadWalk" false)) rfl),
    kit_TooMany_BadWalk := of_decide_eq_true (c.ck 168 (f := cKit "TooMany" "BadWalk" false) rfl),
    exm_TooMany_BadWeb := He.exm_ok (c.ck 169 (f := cFa (.exm "TooMany" "BadWeb" false)) rfl),
    kit_TooMany_BadWeb := of_decide_eq_true (c.ck 170 (f := cKit "TooMany" "BadWeb" false) rfl),
    exm_TooMany_HueError := He.exm_ok (c.ck 171 (f := cFa (.exm "TooMany" "HueError" true)) rfl),
    kit_TooMany_HueError := of_decide_eq_true (c.ck 172 (f := cKit "TooMany" "HueError" true) rfl),
    exm_TooMany_TooMany := He.exm_ok (c.ck 173 (f := cFa (.exm "TooMany" "TooMany" true)) rfl),
    kit_TooMany_TooMany := of_decide_eq_true (c.ck 174 (f := cKit "TooMany" "TooMany" true) rfl) }
  have e := hfa.symm.trans T.g_law
  cases e
  exact ⟨fd32, fun s v => FunD.bindsA (ps := ["script"]) F32 (fun _ _ _ _ _ _ us hl => match us, hl with | [_], _ => rfl) s [v] rfl, fun base _ _ => ok_law T⟩
end Lk
open PySem PySem.W PySem.Calls PyProof.Rows
theorem PySem.Challenge.cw_huewalks_k08_windows_holds : PySem.Challenge.rw_huewalks_k08_windows.Holds := by
  w_on; o_law
  refine HandSHeadRun.head_any (r := (PySem.W.OpenLaw.row PySem.Challenge.rw_huewalks_k08_windows)) (q := view (PySem.W.OpenLaw.row PySem.Challenge.rw_huewalks_k08_windows).prog [50]) (H := Lk.hk) (ob := Lk.ob) (M := 4000) (loose := Lk.loose) (d := HandSHeadRun.topDef (PySem.W.OpenLaw.row PySem.Challenge.rw_huewalks_k08_windows).prog 50) (kwd := []) Lk.ob_eq
    (by kernel_rfl) (fun s => by kernel_rfl) Lk.run (by kernel_rfl) (by kernel_rfl) (by kernel_rfl) (by rfl) (by first | assumption | decide +kernel) (by decide +kernel) ⟨rfl, rfl, rfl, rfl, rfl, by decide +kernel⟩ ?hw ?hc
  case hw => w_witness2
  case hc =>
    refine L2.walk_ofE (l := PySem.Challenge.rw_huewalks_k08_windows) (n := 63) (k := 12) (x := "script") (CX := L2.CX0) rfl (by decide) (by kernel_rfl) ⟨rfl, by decide, by decide⟩ ?F (fun _ _ _ _ z => z)
    intro w mg fa h Yh G hmg0
    obtain ⟨K, KX, c⟩ := Yh
    have hmg : mg ("law" : PySem.Str) = some (.ref fa) := by
      have e : (HandSHeadRun.topDef (PySem.W.OpenLaw.row PySem.Challenge.rw_huewalks_k08_windows).prog 50).name = ("law" : PySem.Str) := by kernel_rfl
      rw [← e]
      exact hmg0
    obtain ⟨fd, hb, hF⟩ := Lk.facts (P := PySem.Challenge.rw_huewalks_k08_windows.prog) (w := w) KX G hmg c
    exact ⟨K, fd, Lk.sp_law K, KX, hb, fun H a ns hl _ hS => ⟨a, ns, rfl, hS, hl, fun _ => rfl⟩, hF⟩
#print axioms PySem.Challenge.cw_huewalks_k08_windows_holds
