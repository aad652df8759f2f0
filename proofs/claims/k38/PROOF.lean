import PyProof.Rows.All
import Wide.All
import OpenK.AllK
import Wide.FinOn
import PyProof.EqAt
import PyProof.EqKinds
import PyProof.TupleCall
import HandS.ForMost
import HandS.ForExc
import HandS.Wide
import HandS.IsInst
import HandS.TryMany
import HandS.TupAny
import HandS.Style
import HandS.Small
import HandS.Conv
import HandS.Flow
import HandS.NoneIn
import HandS.EndBits
import HandS.ExcInit
import HandS.ExcField
import HandS.ExcIs
import KE.KExcIs
import KE.GoesMore
import KE.GoesEnum
import KE.KStateDown
import Lean
import HandS.Base
import HandS.Call
import HandS.Ends
import HandS.More
import HandS.Words
import HandS.WordsExc
import HandS.Defaults
import HandS.Head0
import HandS.Head1
import HandS.Head2
import HandS.HeadEnd
import HandS.HeadHook1
import HandS.HeadHook2
import HandS.Property
import KE.KDictSum
import KE.KDictCopyH
import KE.KDictWalk
import HandS.SortOrd
import HandS.SortRule
import HandS.DictTup
import HandS.TupLen
import OpenK.KOps
import OpenK.KMeth
import HandS.SortKw
import HandS.WideBits
import KE.OsArith
import KE.BitLaws
import KE.IntBitsLaws
import HandS.Head3
import HandS.TryOnly
import HandS.Iter
import HandS.Gcd
import KE.KMathGC
import OpenK.KOwn
import HandS.MakeKw
import HandS.ExcValue
import PyProof.Rows.RuleN_abs
import PyProof.Rows.RuleB_pow
import KE.DataMinMax
import KE.KRevSl
import KE.SortData
import HandS.DictComp
import HandS.WordsDict
import HandS.Deep
import HandS.Dict
import PySem.Challenge.RW_huewalks_k38_order_of_web
set_option Elab.async false
set_option linter.all false
set_option maxRecDepth 100000
set_option maxHeartbeats 4000000
set_option exponentiation.threshold 20000
/-! Gx: value-level rules that serve several kinds at once, and the stepwise reading of a term. -/
namespace Gx
open PySem L2 PySem.Spec PyProof.Rows

/-! ### names of built-ins -/
theorem bt_len : bootBuiltins "len" = some (.builtin "len") := by decide +kernel
theorem bt_isinstance : bootBuiltins "isinstance" = some (.builtin "isinstance") := by decide +kernel
theorem bt_max : bootBuiltins "max" = some (.builtin "max") := by decide +kernel
theorem bt_min : bootBuiltins "min" = some (.builtin "min") := by decide +kernel
theorem bt_sorted : bootBuiltins "sorted" = some (.builtin "sorted") := by decide +kernel
theorem bt_int : bootBuiltins "int" = some (.type "int") := by decide +kernel
theorem bt_bool : bootBuiltins "bool" = some (.type "bool") := by decide +kernel
theorem bt_str : bootBuiltins "str" = some (.type "str") := by decide +kernel
theorem bt_list : bootBuiltins "list" = some (.type "list") := by decide +kernel
theorem bt_tuple : bootBuiltins "tuple" = some (.type "tuple") := by decide +kernel
theorem bt_dict : bootBuiltins "dict" = some (.type "dict") := by decide +kernel
/-! ### operators by values, several kinds -/
def rAddG (K : PySem.W.Frag) : R2 := fun x y H Q => rI0 (fun i j => .int (i + j)) x y H Q ∨ (∃ i j, x = .str i ∧ y = .str j ∧ i.length + j.length ≤ sizeLine ∧ Q (.str (i ++ j)) H) ∨ rCat x y H Q ∨ rCatA K x y H Q
theorem op_addG {X : Cx} : OpR X (binaryOp .Add) (rAddG X.K) := op_add.or (op_add_str.or (op_cat.or op_catA))
def rMulG : R2 := fun x y H Q => rI CMul (fun i j => .int (i * j)) x y H Q ∨ rRep x y H Q
theorem op_mulG {X : Cx} : OpR X (binaryOp .Mult) rMulG := op_mul.or op_rep
def rEqG (K : PySem.W.Frag) : R2 := fun x y H Q => rEq x y H Q ∨ rEqD K x y H Q
theorem op_eqG {X : Cx} (hu : X.A.units + 64 < cLine) : OpR X (compareOp .Eq) (rEqG X.K) := op_eq.or (op_eqD hu)
def rNeG (K : PySem.W.Frag) : R2 := fun x y H Q => rNe x y H Q ∨ rNeD K x y H Q
theorem op_neG {X : Cx} (hu : X.A.units + 64 < cLine) : OpR X (compareOp .NotEq) (rNeG X.K) := op_ne.or (op_neD hu)
def rSub' : R2 := rI0 fun i j => .int (i - j)
def rMod : R2 := rI (fun _ j => 0 < j) fun i j => .int (i % j)
theorem op_mod' {X : Cx} : OpR X (binaryOp .Mod) rMod := op_mod
def rDiv : R2 := rI CDivW fun i j => .int (i / j)
theorem op_div' {X : Cx} : OpR X (binaryOp .FloorDiv) rDiv := op_fdivW
def rPow : R2 := rI CPow fun i j => .int (i ^ j.toNat)
theorem op_pow' {X : Cx} : OpR X (binaryOp .Pow) rPow := op_pow

def rIsiG (K : PySem.W.Frag) : List V → Hp → VK → Prop := fun xs H Q => rIsi K xs H Q ∨ rIsiT K xs H Q
theorem call_isiG {X : Cx} : CallR X (.builtin "isinstance") (rIsiG X.K) := call_isi.or call_isiT
def rLenG (K : PySem.W.Frag) : List V → Hp → VK → Prop := fun xs H Q => ∃ x n, xs = [x] ∧ LenV K x H n ∧ Q (.int n) H
theorem call_lenG {X : Cx} : CallR X (.builtin "len") (rLenG X.K) := call_len
def rInt1 : List V → Hp → VK → Prop := fun xs H Q => (∃ i, xs = [.int i] ∧ Q (.int i) H) ∨ ∃ k, xs = [.bl k] ∧ Q (.int (if k then 1 else 0)) H
theorem call_int1' {X : Cx} : CallR X (.type "int") rInt1 := call_int1
def rListG (K : PySem.W.Frag) : List V → Hp → VK → Prop := fun xs H Q => ∃ p ys, xs = [.ref p] ∧ (SqL K H p ys ∨ SqT K H p ys) ∧ ∀ l, H l = none → Q (.ref l) (upd H l (.lst ys))
theorem call_listG {X : Cx} : CallR X (.type "list") (rListG X.K) := call_list_of
def rTupG (K : PySem.W.Frag) : List V → Hp → VK → Prop := fun xs H Q => ∃ p ys, xs = [.ref p] ∧ ((SqL K H p ys ∧ ∀ l, H l = none → Q (.ref l) (upd H l (.tup ys))) ∨ (SqT K H p ys ∧ Q (.ref p) H))
theorem call_tupG {X : Cx} : CallR X (.type "tuple") (rTupG X.K) := call_tuple_of
def rMax2' : List V → Hp → VK → Prop := fun xs H Q => ∃ i j, xs = [.int i, .int j] ∧ Q (.int (if j > i then j else i)) H
theorem call_max2' {X : Cx} (hc : X.calm = true) : CallR X (.builtin "max") rMax2' := call_max2 hc
def rMin2' : List V → Hp → VK → Prop := fun xs H Q => ∃ i j, xs = [.int i, .int j] ∧ Q (.int (if j < i then j else i)) H
theorem call_min2' {X : Cx} (hc : X.calm = true) : CallR X (.builtin "min") rMin2' := call_min2 hc

def rSlG (K : PySem.W.Frag) : V → Option Int → Option Int → Hp → VK → Prop := fun x lo hi H Q => rSlL K x lo hi H Q ∨ rSlA K x lo hi H Q
/-! ### the steps of a reading -/
section
variable {σ : L2.St} {H : Hp} {Q : VK} {i : Nat} {v x y : V} {ta tb tc te : TE} {t : TA} {tt uu : TT} {r : R2} {K : PySem.W.Frag}
theorem e_var (h : σ[i]? = some (some v)) (k : Q v H) : tVar i σ H Q := ⟨v, h, k⟩
theorem e_c (k : Q v H) : tC v σ H Q := k
theorem e_op (k : ta σ H fun x H1 => tb σ H1 fun y H2 => r x y H2 Q) : tOp r ta tb σ H Q := k
theorem e_un {r : V → Hp → VK → Prop} (k : ta σ H fun x H1 => r x H1 Q) : tUn r ta σ H Q := k
theorem e_nil {Q : List V → Hp → Prop} (k : Q [] H) : tNil σ H Q := k
theorem e_cons {tr : TA} {Q : List V → Hp → Prop} (k : ta σ H fun x H1 => tr σ H1 fun xs H2 => Q (x :: xs) H2) : tCons ta tr σ H Q := k
theorem e_call {sp : Sp} {E : XK} (k : t σ H fun vs H1 => sp vs H1 Q E) : tCall sp [] E t σ H Q := by
  unfold tCall
  simpa only [List.append_nil] using k
theorem e_CB {r : List V → Hp → VK → Prop} (k : t σ H fun vs H1 => r vs H1 Q) : tCB r t σ H Q := k
theorem e_lst (k : t σ H fun xs H1 => xs.length ≤ sizeLine ∧ ∀ p, H1 p = none → Q (.ref p) (upd H1 p (.lst xs))) : tLst t σ H Q := k
theorem e_test {Q : Bool → Hp → Prop} (k : te σ H fun x H1 => ∃ b, x = .bl b ∧ Q b H1) : tTest te σ H Q := k
theorem e_B {Q : Bool → Hp → Prop} (k : te σ H fun x H1 => ∃ b, x = .bl b ∧ Q b H1) : tB te σ H Q := k
theorem e_bl {b : Bool} {R : Bool → Prop} (k : R b) : ∃ c, V.bl b = .bl c ∧ R c := ⟨b, rfl, k⟩
theorem e_not {Q : Bool → Hp → Prop} (k : tt σ H fun c H1 => Q (!c) H1) : tNot tt σ H Q := k
theorem e_or {Q : Bool → Hp → Prop} (k : tt σ H fun c H1 => if c = true then Q true H1 else uu σ H1 Q) : tOr tt uu σ H Q := k
theorem e_andV (k : ta σ H fun x H1 => ∃ c, x = .bl c ∧ if c = true then tb σ H1 Q else Q (.bl false) H1) : tAndV ta tb σ H Q := k
theorem e_BM {T : String} {r : V → List V → Hp → VK → Prop} (k : te σ H fun x H1 => tyV K T x H1 ∧ t σ H1 fun xs H2 => r x xs H2 Q) : tBM K T r te t σ H Q := k
theorem r_I0 {g : Int → Int → V} {i j : Int} (k : Q (g i j) H) : rI0 g (.int i) (.int j) H Q := ⟨i, j, rfl, rfl, k⟩
theorem r_addI {i j : Int} (k : Q (.int (i + j)) H) : rAddG K (.int i) (.int j) H Q := .inl ⟨i, j, rfl, rfl, k⟩
theorem r_addL {a b : Addr} {xs ys : List V} (ha : H a = some (.lst xs)) (hb : H b = some (.lst ys)) (h : xs.length + ys.length ≤ sizeLine) (k : ∀ p, H p = none → Q (.ref p) (upd H p (.lst (xs ++ ys)))) : rAddG K (.ref a) (.ref b) H Q := .inr (.inr (.inl ⟨a, b, xs, ys, rfl, rfl, ha, hb, h, k⟩))
theorem r_mulI {i j : Int} (c : CMul i j) (k : Q (.int (i * j)) H) : rMulG (.int i) (.int j) H Q := .inl ⟨i, j, rfl, rfl, c, k⟩
theorem r_mod {i j : Int} (c : 0 < j) (k : Q (.int (i % j)) H) : rMod (.int i) (.int j) H Q := ⟨i, j, rfl, rfl, c, k⟩
theorem r_div {i j : Int} (c : CDivW i j) (k : Q (.int (i / j)) H) : rDiv (.int i) (.int j) H Q := ⟨i, j, rfl, rfl, c, k⟩
theorem r_pow {i j : Int} (c : CPow i j) (k : Q (.int (i ^ j.toNat)) H) : rPow (.int i) (.int j) H Q := ⟨i, j, rfl, rfl, c, k⟩
theorem r_eqS (h : scal x y = true) (k : Q (.bl (decide (x = y))) H) : rEqG K x y H Q := .inl ⟨h, k⟩
theorem r_neS (h : scal x y = true) (k : Q (.bl (!decide (x = y))) H) : rNeG K x y H Q := .inl ⟨h, k⟩
theorem e_disp {xs : List V} {R : Addr → Prop} (h : xs.length ≤ sizeLine) (k : ∀ p, H p = none → R p) : xs.length ≤ sizeLine ∧ ∀ p, H p = none → R p := ⟨h, k⟩
theorem r_lenL {p : Addr} {xs : List V} (h : H p = some (.lst xs)) (k : Q (.int (xs.length : Int)) H) : rLenG K [.ref p] H Q := ⟨_, _, rfl, .inl ⟨xs, SqL.of h, rfl⟩, k⟩
theorem r_lenT {p : Addr} {xs : List V} (h : H p = some (.tup xs)) (k : Q (.int (xs.length : Int)) H) : rLenG K [.ref p] H Q := ⟨_, _, rfl, .inr ⟨xs, SqT.of h, rfl⟩, k⟩
theorem r_ixL' {p : Addr} {xs : List V} {i : Int} (h : H p = some (.lst xs)) (ha : atI xs i = some v) (k : Q v H) : rIx K (.ref p) (.int i) H Q := .inl ⟨p, xs, i, v, rfl, rfl, SqL.of h, ha, k⟩
theorem r_ixT' {p : Addr} {xs : List V} {i : Int} (h : H p = some (.tup xs)) (ha : atI xs i = some v) (k : Q v H) : rIx K (.ref p) (.int i) H Q := .inr (.inl ⟨p, xs, i, v, rfl, rfl, SqT.of h, ha, k⟩)
theorem r_int {i : Int} (k : Q (.int i) H) : rInt1 [.int i] H Q := .inl ⟨i, rfl, k⟩
theorem r_setL {p : Addr} {xs : List V} {i : Int} {j : Nat} {w : V} {Q : Hp → Prop} (h : H p = some (.lst xs)) (hi : ixN xs.length i = some j) (k : Q (upd H p (.lst (xs.set j w)))) : rSetL (.ref p) (.int i) w H Q := ⟨p, xs, i, j, rfl, rfl, h, hi, k⟩
theorem r_max {i j : Int} (k : Q (.int (if j > i then j else i)) H) : rMax2' [.int i, .int j] H Q := ⟨i, j, rfl, k⟩
theorem r_min {i j : Int} (k : Q (.int (if j < i then j else i)) H) : rMin2' [.int i, .int j] H Q := ⟨i, j, rfl, k⟩
theorem r_append {l : Addr} {xs : List V} {y : V} (h : H l = some (.lst xs)) (hl : xs.length < sizeLine) (k : Q .non (upd H l (.lst (xs ++ [y])))) : rAppend (.ref l) [y] H Q := ⟨l, xs, y, rfl, rfl, h, hl, k⟩
theorem r_listL {p : Addr} {ys : List V} (h : SqL K H p ys) (k : ∀ l, H l = none → Q (.ref l) (upd H l (.lst ys))) : rListG K [.ref p] H Q := ⟨p, ys, rfl, .inl h, k⟩
theorem r_listT {p : Addr} {ys : List V} (h : SqT K H p ys) (k : ∀ l, H l = none → Q (.ref l) (upd H l (.lst ys))) : rListG K [.ref p] H Q := ⟨p, ys, rfl, .inr h, k⟩
theorem r_tupL {p : Addr} {ys : List V} (h : SqL K H p ys) (k : ∀ l, H l = none → Q (.ref l) (upd H l (.tup ys))) : rTupG K [.ref p] H Q := ⟨p, ys, rfl, .inl ⟨h, k⟩⟩
theorem r_tupT {p : Addr} {ys : List V} (h : SqT K H p ys) (k : Q (.ref p) H) : rTupG K [.ref p] H Q := ⟨p, ys, rfl, .inr ⟨h, k⟩⟩
end
/-! ### statements; the ends written out -/
section
variable {σ : L2.St} {H : Hp} {n b c : L2.St → Hp → Prop} {rt : VK} {t u : TS} {te : TE} {tt : TT} {i : Nat}
theorem s_seq (k : t ⟨u ⟨n, rt, b, c⟩, rt, b, c⟩ σ H) : tSeq t u ⟨n, rt, b, c⟩ σ H := k
theorem s_next (k : n σ H) : tNext ⟨n, rt, b, c⟩ σ H := k
theorem s_brk (k : b σ H) : tBreak ⟨n, rt, b, c⟩ σ H := k
theorem s_ret (k : te σ H rt) : tRet te ⟨n, rt, b, c⟩ σ H := k
theorem s_drop (k : te σ H fun _ H1 => n σ H1) : tDrop te ⟨n, rt, b, c⟩ σ H := k
theorem s_if (k : tt σ H fun x H1 => if x = true then t ⟨n, rt, b, c⟩ σ H1 else u ⟨n, rt, b, c⟩ σ H1) : tIfS tt t u ⟨n, rt, b, c⟩ σ H := k
theorem s_asg {g : TG} (k : te σ H fun x H1 => g x σ H1 n) : tAsg te g ⟨n, rt, b, c⟩ σ H := k
theorem g_name {v : V} {Q : L2.St → Hp → Prop} (k : Q (σ.set i (some v)) H) : gName i v σ H Q := k
theorem g_sub {to ti : TE} {ts : TSet} {v : V} {Q : L2.St → Hp → Prop} (k : to σ H fun o H1 => ti σ H1 fun j H2 => ts o j v H2 fun H3 => Q σ H3) : gSub to ti ts v σ H Q := k
end
/-! ### tests -/
theorem if_t {b : Bool} {A B : Prop} (h : b = true) (k : A) : if b = true then A else B := by
  rw [if_pos h]; exact k
theorem if_f {b : Bool} {A B : Prop} (h : b = false) (k : B) : if b = true then A else B := by
  rw [if_neg (by rw [h]; exact Bool.false_ne_true)]; exact k
theorem if_d {p : Prop} [Decidable p] {A B : Prop} (h1 : p → A) (h2 : ¬ p → B) : if decide p = true then A else B := by
  by_cases h : p
  · rw [if_pos (decide_eq_true h)]; exact h1 h
  · rw [if_neg (by rw [decide_eq_false h]; exact Bool.false_ne_true)]; exact h2 h
theorem if_nd {p : Prop} [Decidable p] {A B : Prop} (h1 : ¬ p → A) (h2 : p → B) : if (!decide p) = true then A else B := by
  by_cases h : p
  · rw [if_neg (by rw [decide_eq_true h]; exact Bool.false_ne_true)]; exact h2 h
  · rw [if_pos (by rw [decide_eq_false h]; rfl)]; exact h1 h
theorem if_dt {p : Prop} [Decidable p] {A B : Prop} (h : p) (k : A) : if decide p = true then A else B := if_t (decide_eq_true h) k
theorem if_df {p : Prop} [Decidable p] {A B : Prop} (h : ¬ p) (k : B) : if decide p = true then A else B := if_f (decide_eq_false h) k

/-! ### loops -/
section
variable {σ : L2.St} {H : Hp} {nn b c : L2.St → Hp → Prop} {rt : VK} {g : TG} {tb : TS} {K : PySem.W.Frag} {te : TE} {ta : TA}
theorem s_for {wi : TI} (k : wi σ H fun J H1 => ∃ W : Nat → Nat → L2.St → Hp → Prop, (∃ m, W 0 m σ H1) ∧ ∀ i m σ H, W i m σ H →
    (J.stop i H ∧ nn σ H) ∨ (J.go i H ∧ ∃ N : L2.St → Hp → Prop, (∀ σ' H', N σ' H' → ∃ m', m' < m ∧ W (i + 1) m' σ' H') ∧ ∀ x H', J.yld i H x H' → g x σ H' fun σ2 H2 => tb ⟨N, rt, nn, N⟩ σ2 H2)) : tFor wi g tb ⟨nn, rt, b, c⟩ σ H := k
theorem i_rng1 {R : It → Hp → Prop} (k : ta σ H fun vs H1 => ∃ j : Int, vs = [.int j] ∧ -(2 ^ 62) ≤ j ∧ j < 2 ^ 62 ∧ R (Itr 0 j.toNat) H1) : iRng1 ta σ H R := k
theorem i_rng1' {R : Int → Prop} {j : Int} (h : -(2 ^ 62) ≤ j ∧ j < 2 ^ 62) (k : R j) : ∃ j' : Int, [V.int j] = [V.int j'] ∧ -(2 ^ 62) ≤ j' ∧ j' < 2 ^ 62 ∧ R j' := ⟨j, rfl, h.1, h.2, k⟩
theorem i_list {R : It → Hp → Prop} (k : te σ H fun x H1 => ∃ a, x = .ref a ∧ (∃ xs, SqL K H1 a xs) ∧ R (Itl K a) H1) : iList K te σ H R := k
theorem i_list' {p : Addr} {xs : List V} {R : Addr → Prop} (h : SqL K H p xs) (k : R p) : ∃ a, V.ref p = .ref a ∧ (∃ xs, SqL K H a xs) ∧ R a := ⟨p, rfl, ⟨xs, h⟩, k⟩
theorem f_range {lo : Int} {n : Nat} (Pv : Nat → L2.St → Hp → Prop) (h0 : Pv 0 σ H)
    (hs : ∀ i σ H, i < n → Pv i σ H → g (.int (lo + i)) σ H fun σ2 H2 => tb ⟨Pv (i + 1), rt, nn, Pv (i + 1)⟩ σ2 H2) (hd : ∀ σ H, Pv n σ H → nn σ H) :
    ∃ W : Nat → Nat → L2.St → Hp → Prop, (∃ m, W 0 m σ H) ∧ ∀ i m σ H, W i m σ H →
      ((Itr lo n).stop i H ∧ nn σ H) ∨ ((Itr lo n).go i H ∧ ∃ N : L2.St → Hp → Prop, (∀ σ' H', N σ' H' → ∃ m', m' < m ∧ W (i + 1) m' σ' H') ∧ ∀ x H', (Itr lo n).yld i H x H' → g x σ H' fun σ2 H2 => tb ⟨N, rt, nn, N⟩ σ2 H2) :=
  for_range (D := ⟨nn, rt, fun _ _ => False, fun _ _ => False⟩) Pv h0 hs hd
theorem f_list {p : Addr} {xs : List V} (Pv : Nat → L2.St → Hp → Prop) (h0 : Pv 0 σ H) (hl : ∀ i σ H, i ≤ xs.length → Pv i σ H → SqL K H p xs)
    (hs : ∀ i x σ H, xs[i]? = some x → Pv i σ H → g x σ H fun σ2 H2 => tb ⟨Pv (i + 1), rt, nn, Pv (i + 1)⟩ σ2 H2) (hd : ∀ σ H, Pv xs.length σ H → nn σ H) :
    ∃ W : Nat → Nat → L2.St → Hp → Prop, (∃ m, W 0 m σ H) ∧ ∀ i m σ H, W i m σ H →
      ((Itl K p).stop i H ∧ nn σ H) ∨ ((Itl K p).go i H ∧ ∃ N : L2.St → Hp → Prop, (∀ σ' H', N σ' H' → ∃ m', m' < m ∧ W (i + 1) m' σ' H') ∧ ∀ x H', (Itl K p).yld i H x H' → g x σ H' fun σ2 H2 => tb ⟨N, rt, nn, N⟩ σ2 H2) :=
  for_list (D := ⟨nn, rt, fun _ _ => False, fun _ _ => False⟩) Pv h0 hl hs hd
theorem e_lc {wi : TI} {tt : TT} {vs : List Nat} {Q : VK} (k : wi σ H fun J H1 => ∀ D, H1 D = none → ∃ W : Nat → Nat → Hp → Prop, (∃ m, W 0 m (upd H1 D (.lst []))) ∧ ∀ i m H, W i m H →
  (J.stop i H ∧ Q (.ref D) H) ∨ (J.go i H ∧ ∃ Nx : Hp → Prop, (∀ H', Nx H' → ∃ m', m' < m ∧ W (i + 1) m' H') ∧ ∀ x H', J.yld i H x H' → g x (wipe σ vs) H' fun σ2 H2 => wipe σ2 vs = wipe σ vs ∧ tt σ2 H2 fun b H3 =>
    if b = true then te σ2 H3 fun y H4 => ∃ acc, H4 D = some (.lst acc) ∧ acc.length < sizeLine ∧ Nx (upd H4 D (.lst (acc ++ [y]))) else Nx H3)) : tLc wi g tt te vs σ H Q := k
theorem e_yes {Q : Bool → Hp → Prop} (k : Q true H) : tYes σ H Q := k
end
end Gx

set_option Elab.async false
set_option linter.all false
set_option maxRecDepth 100000
set_option maxHeartbeats 4000000
/-! Gd: list(d.keys()), list(d.values()); walks over a list or a tuple. -/
namespace Gx
open PySem L2 PySem.Spec PyProof.Rows
section
variable {X : Cx} {e : Expr} {te : TE} {p apos cpos pos : Pos}
def rLK : V → Hp → VK → Prop := fun x H Q => ∃ (d : Addr) (kvs : List (Key × V)), x = .ref d ∧ H d = some (.dK kvs) ∧ ∀ q, H q = none → Q (.ref q) (upd H q (.lst (kvs.map fun kv => kV kv.1)))
def rLV : V → Hp → VK → Prop := fun x H Q => ∃ (d : Addr) (kvs : List (Key × V)), x = .ref d ∧ H d = some (.dK kvs) ∧ ∀ q, H q = none → Q (.ref q) (upd H q (.lst (kvs.map fun kv => kv.2)))
theorem pe_listKeys (hc : X.calm = true) (he : PE X e te) (hm : X.mg "list" = none) (hg : Gl X "list" := by rfl) (hv : bootBuiltins "list" = some (.type "list") := bt_list) (hbase : attributeBase e "keys" X.env (eval e X.env) = eval e X.env := by rfl) (hline : (apos.endLine == cpos.line) = true := by rfl)
    (hs : starEach [.Call (.Attribute e "keys" apos) [] [] cpos] X.env = (false, eval (.Call (.Attribute e "keys" apos) [] [] cpos) X.env) :: starEach [] X.env := by rfl) :
    PE X (.Call (.Name "list" p) [.Call (.Attribute e "keys" apos) [] [] cpos] [] pos) (tUn rLK te) := by
  refine ⟨fun pins s σ H Q I hq => ?_⟩
  refine wpAny_Call_Name_kw (ld_blt I hg hm hv ?_)
  refine PyProof.Rows.callWith_type1 ?_ hs rfl
  rw [hs]
  show wpAny _ _ (spliced ((false, eval (.Call (.Attribute e "keys" apos) [] [] cpos) X.env) :: backTo pos (starEach [] X.env))) _ _ s
  refine Calls.spliced_cons ?_
  refine wpAny_Call_method (T := "dict") (id := "dict.keys") hbase rfl hline F.plainAttrs_dict F.slot_dict_keys F.type_dict_keys (thn (he.run pins s σ H _ I hq) fun u s1 ⟨x, H1, I1, rx, d, kvs, ex, hd, q⟩ => ?_)
  subst ex
  obtain rfl : u = Value.ref d := rx
  obtain ⟨hz, hs0, vs, kv, hdo⟩ := I1.hok d _ hd
  obtain ⟨ep, hat⟩ := hdo.dictAt
  have lk : kvs.length = vs.length := Paired.length kv
  have I2 : Inv X pins σ H1 { s1 with heap := s1.heap.push { cls := .type "dict_keys", data := .fields #[.ref d] } } := I1.kept (t' := s1.toks) fun b ob q => Heap.get?_push_of_some _ q
  refine ⟨hdo.typeIs, hdo.mapOf.noDict, ?_⟩
  show wpAny _ _ (callWith cpos (.builtin "dict.keys") [.ref d] [] []) _ X.xe s1
  refine method_meetsIn F.slot_dict_keys F.entry_dict_keys rfl (PySem.evalArgs_none ⟨rfl, hdo.typeIs, F.args_dict_keys_1 _, _, PySem.W.kdl_meets_keys (mixKind X.prog X.w) d hs0, ⟨vs, hdo⟩, ?_⟩)
  refine Calls.spliced_nil ?_
  refine PySem.W.kdl_call (PySem.W.kdl_keys (knd := mixKind X.prog X.w) (kvs := vs) (ep := ep)) (I1.ok.hd hc) ⟨⟨_, Heap.get?_push_size _ rfl, rfl, rfl⟩, hat.push _⟩ (by rw [← lk]; exact hz) fun h' tk acc' c' hkeep hS hacc => ?_
  refine ⟨.ref _, upd H1 _ (.lst (kvs.map fun kv => kV kv.1)), I2.laid hkeep (Nat.le_refl _) (show ObjOk X.prog X.w _ _ _ (.lst (kvs.map fun kv => kV kv.1)) from ⟨?_, acc'.toList, c', ?_, ?_⟩), rfl, q _ (I2.hok.fresh (Nat.le_refl _))⟩
  · rw [List.length_map]; exact hz
  · have el : acc'.toList.length = acc'.size := by simp
    refine vals_of_at (by rw [List.length_map, el, hacc.1, lk]) fun j x w h1 h2 => ?_
    obtain ⟨k, y, hky, hi⟩ := hacc.2 j w (by rw [← Array.getElem?_toList]; exact h2)
    have e1 : (kvs.map (·.1))[j]? = some k := by
      rw [KV.keys kv, List.getElem?_map, hky] <;> rfl
    have e2 : (kvs.map fun kv => kV kv.1)[j]? = some (kV k) := by
      have e3 : (kvs.map fun kv => kV kv.1) = (kvs.map (·.1)).map kV := by rw [List.map_map] <;> rfl
      rw [e3, List.getElem?_map, e1] <;> rfl
    rw [e2] at h1
    cases h1
    exact keyIs_rel hi
  · rw [Array.toArray_toList]; exact hS
theorem kv_at {κ : Type} : ∀ {kvs : List (κ × V)} {vs : List (κ × Value)}, KV kvs vs → ∀ {j : Nat} {k : κ} {u : Value}, vs[j]? = some (k, u) → ∃ y, (kvs.map (·.2))[j]? = some y ∧ RelV y u
  | _, _, .nil, j, k, u, h => by simp at h
  | _, _, .cons (a := x) r t, 0, k, u, h => by
    have e := Option.some.inj h
    refine ⟨x.2, rfl, ?_⟩
    have := r.2
    rw [e] at this
    exact this
  | _, _, .cons r t, j + 1, k, u, h => kv_at t (j := j) h
theorem pe_listValues (hc : X.calm = true) (he : PE X e te) (hm : X.mg "list" = none) (hg : Gl X "list" := by rfl) (hv : bootBuiltins "list" = some (.type "list") := bt_list) (hbase : attributeBase e "values" X.env (eval e X.env) = eval e X.env := by rfl) (hline : (apos.endLine == cpos.line) = true := by rfl)
    (hs : starEach [.Call (.Attribute e "values" apos) [] [] cpos] X.env = (false, eval (.Call (.Attribute e "values" apos) [] [] cpos) X.env) :: starEach [] X.env := by rfl) :
    PE X (.Call (.Name "list" p) [.Call (.Attribute e "values" apos) [] [] cpos] [] pos) (tUn rLV te) := by
  refine ⟨fun pins s σ H Q I hq => ?_⟩
  refine wpAny_Call_Name_kw (ld_blt I hg hm hv ?_)
  refine PyProof.Rows.callWith_type1 ?_ hs rfl
  rw [hs]
  show wpAny _ _ (spliced ((false, eval (.Call (.Attribute e "values" apos) [] [] cpos) X.env) :: backTo pos (starEach [] X.env))) _ _ s
  refine Calls.spliced_cons ?_
  refine wpAny_Call_method (T := "dict") (id := "dict.values") hbase rfl hline F.plainAttrs_dict F.slot_dict_values F.type_dict_values (thn (he.run pins s σ H _ I hq) fun u s1 ⟨x, H1, I1, rx, d, kvs, ex, hd, q⟩ => ?_)
  subst ex
  obtain rfl : u = Value.ref d := rx
  obtain ⟨hz, hs0, vs, kv, hdo⟩ := I1.hok d _ hd
  obtain ⟨ep, hat⟩ := hdo.dictAt
  have lk : kvs.length = vs.length := Paired.length kv
  have I2 : Inv X pins σ H1 { s1 with heap := s1.heap.push { cls := .type "dict_values", data := .fields #[.ref d] } } := I1.kept (t' := s1.toks) fun b ob q => Heap.get?_push_of_some _ q
  refine ⟨hdo.typeIs, hdo.mapOf.noDict, ?_⟩
  show wpAny _ _ (callWith cpos (.builtin "dict.values") [.ref d] [] []) _ X.xe s1
  refine method_meetsIn F.slot_dict_values F.entry_dict_values rfl (PySem.evalArgs_none ⟨rfl, hdo.typeIs, F.args_dict_values_1 _, _, meets_dict_values (mixKind X.prog X.w) d hs0, ⟨vs, hdo⟩, ?_⟩)
  refine Calls.spliced_nil ?_
  refine PySem.W.kdl_call (PySem.W.kdl_values (knd := mixKind X.prog X.w) (kvs := vs) (ep := ep)) (I1.ok.hd hc) ⟨⟨_, Heap.get?_push_size _ rfl, rfl, rfl⟩, hat.push _⟩ (by rw [← lk]; exact hz) fun h' tk acc' c' hkeep hS hacc => ?_
  refine ⟨.ref _, upd H1 _ (.lst (kvs.map fun kv => kv.2)), I2.laid hkeep (Nat.le_refl _) (show ObjOk X.prog X.w _ _ _ (.lst (kvs.map fun kv => kv.2)) from ⟨?_, acc'.toList, c', ?_, ?_⟩), rfl, q _ (I2.hok.fresh (Nat.le_refl _))⟩
  · rw [List.length_map]; exact hz
  · have el : acc'.toList.length = acc'.size := by simp
    refine vals_of_at (by rw [List.length_map, el, hacc.1, lk]) fun j x w h1 h2 => ?_
    obtain ⟨k, hky⟩ := hacc.2 j w (by rw [← Array.getElem?_toList]; exact h2)
    obtain ⟨y, e1, e2⟩ := kv_at kv hky
    rw [e1] at h1
    cases h1
    exact e2
  · rw [Array.toArray_toList]; exact hS
theorem e_lk {σ : L2.St} {H : Hp} {Q : VK} {d : Addr} {kvs : List (Key × V)} (h : H d = some (.dK kvs)) (k : ∀ q, H q = none → Q (.ref q) (upd H q (.lst (kvs.map fun kv => kV kv.1)))) : rLK (.ref d) H Q := ⟨d, kvs, rfl, h, k⟩
theorem e_lv {σ : L2.St} {H : Hp} {Q : VK} {d : Addr} {kvs : List (Key × V)} (h : H d = some (.dK kvs)) (k : ∀ q, H q = none → Q (.ref q) (upd H q (.lst (kvs.map fun kv => kv.2)))) : rLV (.ref d) H Q := ⟨d, kvs, rfl, h, k⟩
end
def iOr (w1 w2 : TI) : TI := fun σ H R => w1 σ H R ∨ w2 σ H R
theorem pi_or {X : Cx} {tg e : Expr} {w1 w2 : TI} (h1 : PI X tg e w1) (h2 : PI X tg e w2) : PI X tg e (iOr w1 w2) := ⟨fun pins s σ H R I h => h.elim (fun q => h1.run pins s σ H R I q) fun q => h2.run pins s σ H R I q⟩

/-! ### values, deep -/
/-- what a value is, seen through the heap -/
inductive D where
  | non | bl (b : Bool) | int (i : Int) | str (s : Str) | lst (xs : List D) | tup (xs : List D) | dic (kvs : List (Key × D))
mutual
def Dv (H : Hp) : V → D → Prop
  | v, .non => v = .non
  | v, .bl b => v = .bl b
  | v, .int i => v = .int i
  | v, .str s => v = .str s
  | v, .lst ds => ∃ p vs, v = .ref p ∧ H p = some (.lst vs) ∧ vs.length ≤ sizeLine ∧ DvL H vs ds
  | v, .tup ds => ∃ p vs, v = .ref p ∧ H p = some (.tup vs) ∧ vs.length ≤ sizeLine ∧ DvL H vs ds
  | v, .dic ps => ∃ p kvs, v = .ref p ∧ H p = some (.dK kvs) ∧ kvs.length ≤ sizeLine ∧ DvK H kvs ps
def DvL (H : Hp) : List V → List D → Prop
  | vs, [] => vs = []
  | vs, d :: ds => ∃ v r, vs = v :: r ∧ Dv H v d ∧ DvL H r ds
def DvK (H : Hp) : List (Key × V) → List (Key × D) → Prop
  | ks, [] => ks = []
  | ks, (k, d) :: ps => ∃ v r, ks = (k, v) :: r ∧ Dv H v d ∧ DvK H r ps
end
mutual
theorem Dv.mono {H H' : Hp} (h : Same H H') : ∀ {d : D} {v : V}, Dv H v d → Dv H' v d
  | .non, _, q => q
  | .bl _, _, q => q
  | .int _, _, q => q
  | .str _, _, q => q
  | .lst ds, _, ⟨p, vs, e, hp, hl, q⟩ => ⟨p, vs, e, h _ _ hp, hl, DvL.mono h q⟩
  | .tup ds, _, ⟨p, vs, e, hp, hl, q⟩ => ⟨p, vs, e, h _ _ hp, hl, DvL.mono h q⟩
  | .dic ps, _, ⟨p, vs, e, hp, hl, q⟩ => ⟨p, vs, e, h _ _ hp, hl, DvK.mono h q⟩
theorem DvL.mono {H H' : Hp} (h : Same H H') : ∀ {ds : List D} {vs : List V}, DvL H vs ds → DvL H' vs ds
  | [], _, q => q
  | d :: ds, _, ⟨v, r, e, q, t⟩ => ⟨v, r, e, Dv.mono h q, DvL.mono h t⟩
theorem DvK.mono {H H' : Hp} (h : Same H H') : ∀ {ps : List (Key × D)} {ks : List (Key × V)}, DvK H ks ps → DvK H' ks ps
  | [], _, q => q
  | (k, d) :: ps, _, ⟨v, r, e, q, t⟩ => ⟨v, r, e, Dv.mono h q, DvK.mono h t⟩
end
theorem DvL.length {H : Hp} : ∀ {ds : List D} {vs : List V}, DvL H vs ds → vs.length = ds.length
  | [], vs, q => by
    rw [show vs = [] from q]
    rfl
  | d :: ds, _, ⟨v, r, e, q, t⟩ => by rw [e, List.length_cons, List.length_cons, DvL.length t]
theorem DvL.get {H : Hp} : ∀ {ds : List D} {vs : List V} {i : Nat} {d : D}, DvL H vs ds → ds[i]? = some d → ∃ v, vs[i]? = some v ∧ Dv H v d
  | [], _, i, d, _, h => by simp at h
  | x :: ds, _, 0, d, ⟨v, r, e, q, t⟩, h => by
    have := Option.some.inj h
    subst this
    exact ⟨v, by rw [e]; rfl, q⟩
  | x :: ds, _, i + 1, d, ⟨v, r, e, q, t⟩, h => by
    obtain ⟨y, h1, h2⟩ := DvL.get t (i := i) (d := d) (by simpa using h)
    exact ⟨y, by rw [e]; simpa using h1, h2⟩
theorem DvL.append {H : Hp} : ∀ {ds es : List D} {vs ws : List V}, DvL H vs ds → DvL H ws es → DvL H (vs ++ ws) (ds ++ es)
  | [], es, vs, ws, q, z => by
    rw [show vs = [] from q]
    exact z
  | d :: ds, es, _, ws, ⟨v, r, e, q, t⟩, z => ⟨v, r ++ ws, by rw [e]; rfl, q, DvL.append t z⟩
/-- how deep -/
def D.depth : D → Nat
  | .lst ds => 1 + go ds
  | .tup ds => 1 + go ds
  | .dic ps => 2 + goK ps
  | _ => 0
where
  go : List D → Nat
    | [] => 0
    | d :: ds => max d.depth (go ds)
  goK : List (Key × D) → Nat
    | [] => 0
    | (_, d) :: ps => max d.depth (goK ps)
theorem depth_get : ∀ {ds : List D} {i : Nat} {d : D}, ds[i]? = some d → d.depth ≤ D.depth.go ds
  | [], i, d, h => by simp at h
  | x :: ds, 0, d, h => by
    have := Option.some.inj h
    subst this
    exact Nat.le_max_left _ _
  | x :: ds, i + 1, d, h => Nat.le_trans (depth_get (i := i) (by simpa using h)) (Nat.le_max_right _ _)
def kD : Key → D
  | .inl i => .int i
  | .inr s => .str s
theorem DvK.keys {H : Hp} : ∀ {ps : List (Key × D)} {ks : List (Key × V)}, DvK H ks ps → DvL H (ks.map fun kv => kV kv.1) (ps.map fun kd => kD kd.1)
  | [], ks, q => by rw [show ks = [] from q]; rfl
  | (k, d) :: ps, _, ⟨v, r, e, q, t⟩ => ⟨kV k, _, by rw [e]; rfl, by cases k <;> rfl, DvK.keys t⟩
theorem DvK.vals {H : Hp} : ∀ {ps : List (Key × D)} {ks : List (Key × V)}, DvK H ks ps → DvL H (ks.map fun kv => kv.2) (ps.map fun kd => kd.2)
  | [], ks, q => by rw [show ks = [] from q]; rfl
  | (k, d) :: ps, _, ⟨v, r, e, q, t⟩ => ⟨v, _, by rw [e]; rfl, q, DvK.vals t⟩
theorem DvK.length {H : Hp} : ∀ {ps : List (Key × D)} {ks : List (Key × V)}, DvK H ks ps → ks.length = ps.length
  | [], ks, q => by
    rw [show ks = [] from q]
    rfl
  | (k, d) :: ps, _, ⟨v, r, e, q, t⟩ => by rw [e, List.length_cons, List.length_cons, DvK.length t]
theorem depth_keys : ∀ (ps : List (Key × D)), D.depth.go (ps.map fun kd => kD kd.1) = 0
  | [] => rfl
  | (k, d) :: ps => by
    show max (kD k).depth (D.depth.go (ps.map fun kd => kD kd.1)) = 0
    rw [depth_keys ps]
    cases k <;> rfl
theorem depth_vals : ∀ (ps : List (Key × D)), D.depth.go (ps.map fun kd => kd.2) = D.depth.goK ps
  | [] => rfl
  | (k, d) :: ps => by
    show max d.depth (D.depth.go (ps.map fun kd => kd.2)) = max d.depth (D.depth.goK ps)
    rw [depth_vals ps]
end Gx
namespace Gx
open PySem L2 PySem.Spec PyProof.Rows
/-! ### kinds -/
def D.ty : D → String
  | .non => "NoneType" | .bl _ => "bool" | .int _ => "int" | .str _ => "str" | .lst _ => "list" | .tup _ => "tuple" | .dic _ => "dict"
theorem Dv.tyx {K : PySem.W.Frag} {H : Hp} {v : V} : ∀ {d : D}, Dv H v d → TyX K H v (.type d.ty)
  | .non, q => by rw [show v = .non from q]; exact .base .non
  | .bl b, q => by rw [show v = .bl b from q]; exact .base (.bl b)
  | .int i, q => by rw [show v = .int i from q]; exact .base (.int i)
  | .str s, q => by rw [show v = .str s from q]; exact .base (.str s)
  | .lst ds, ⟨p, vs, e, hp, _⟩ => by rw [e]; exact .base (.lst hp)
  | .tup ds, ⟨p, vs, e, hp, _⟩ => by rw [e]; exact .base (.tup hp)
  | .dic ps, ⟨p, vs, e, hp, _⟩ => by rw [e]; exact .base (.dK hp)
section
variable {σ : L2.St} {H : Hp} {Q : VK} {v : V} {K : PySem.W.Frag} {d : D}
theorem r_isiX {t : Value} {b : String} {r : Bool} (hv : TyX K H v t) (hk : PySem.W.kitOne K t (.type b) = some r) (k : Q (.bl r) H) : rIsiG K [v, .ty b] H Q := .inl ⟨v, .ty b, t, .type b, r, rfl, .ty b, hv, hk, k⟩
theorem r_isiD {b : String} {r : Bool} (hv : Dv H v d) (hk : kitB d.ty b = some r) (k : Q (.bl r) H) : rIsiG K [v, .ty b] H Q := r_isiX (Dv.tyx hv) (kit_ty hk) k
theorem r_isi2X {t : Value} {b1 b2 : String} {r : Bool} {p : Addr} (hp : H p = some (.tup [.ty b1, .ty b2])) (hv : TyX K H v t) (hk : PySem.W.kitAny K t [.type b1, .type b2] = some r) (k : Q (.bl r) H) : rIsiG K [v, .ref p] H Q :=
  .inr ⟨v, p, [.ty b1, .ty b2], t, [.type b1, .type b2], r, rfl, hp, .cons (.ty b1) (.cons (.ty b2) .nil), hv, hk, k⟩
def kitB2 (a b c : String) : Option Bool := match kitB a b with
  | some true => some true
  | some false => (match kitB a c with
    | some true => some true
    | some false => some false
    | none => none)
  | none => none
theorem kit_ty2 {a b c : String} {r : Bool} (h : kitB2 a b c = some r) : PySem.W.kitAny K (.type a) [.type b, .type c] = some r := h
end
def D.isInt : D → Bool
  | .int _ => true
  | _ => false
def D.inR (lo hi : Int) : D → Bool
  | .int i => decide (lo ≤ i) && decide (i ≤ hi)
  | _ => false
def D.isSeq : D → Bool
  | .lst _ => true
  | .tup _ => true
  | _ => false
/-- p is free -/
def Nw (H : Hp) (p : Addr) : Prop := H p = none
theorem same_new {H : Hp} {p : Addr} {o : HO} (h : H p = none) : Same H (upd H p o) := fun a u e => by
  rw [upd_ne (ne_of_none e h)]
  exact e
theorem all_new {H : Hp} {R : Addr → Prop} (k : ∀ p, Nw H p → R p) : ∀ p, H p = none → R p := k
theorem same_mut {H H' : Hp} {p : Addr} {o : HO} (e : Same H H') (h : H p = none) : Same H (upd H' p o) := fun a u ha => by
  rw [upd_ne (ne_of_none ha h)]
  exact e a u ha
/-! ### the law's store -/
/-- the law's store at p: its cells at c, how many are taken, the bank, the mix, the count -/
def Sto (H : Hp) (p c : Addr) : Prop := ∃ (cells : List Int) (at' : Nat) (bank mx cnt : Int),
  H p = some (.lst [.ref c, .int at', .int bank, .int mx, .int cnt]) ∧ H c = some (.lst (cells.map V.int)) ∧ c ≠ p ∧ at' ≤ cells.length ∧ cells.length ≤ sizeLine
/-- all but the store stands as it stood -/
def SB (p : Addr) (H H' : Hp) : Prop := ∀ b o, b ≠ p → H b = some o → H' b = some o
theorem SB.refl {p : Addr} {H : Hp} : SB p H H := fun _ _ _ h => h
theorem SB.trans {p : Addr} {H H1 H2 : Hp} (a : SB p H H1) (b : SB p H1 H2) : SB p H H2 := fun c o n h => b c o n (a c o n h)
theorem SB.upd {p : Addr} {H H1 : Hp} {o : HO} (a : SB p H H1) : SB p H (upd H1 p o) := fun c u n h => by
  rw [upd_ne n]
  exact a c u n h
theorem SB.of {p : Addr} {H H1 : Hp} (a : Same H H1) : SB p H H1 := fun c o _ h => a c o h
/-- what does not hang on the store: seen without it -/
def wo (p : Addr) (H : Hp) : Hp := fun b => if b = p then none else H b
theorem wo_ne {p b : Addr} {H : Hp} (h : b ≠ p) : wo p H b = H b := if_neg h
theorem wo_same {p : Addr} {H : Hp} : wo p H p = none := if_pos rfl
theorem SB.wo {p : Addr} {H H' : Hp} (s : SB p H H') : Same (wo p H) (wo p H') := fun b o h => by
  by_cases e : b = p
  · rw [e, wo_same] at h; cases h
  · rw [wo_ne e] at h ⊢; exact s b o e h
theorem e_disp1 {σ : L2.St} {H : Hp} {Q : VK} {tk tv : TE} (k : ∀ p, Nw H p → tk σ (upd H p (.dK [])) fun x H1 => tv σ H1 fun y H2 => H2 p = some (.dK []) ∧ ∃ kk : Key, x = kV kk ∧ Q (.ref p) (upd H2 p (.dK [(kk, y)]))) (mono : ∀ σ H R R', (∀ x H1, R x H1 → R' x H1) → tk σ H R → tk σ H R') (mono2 : ∀ σ H R R', (∀ x H1, R x H1 → R' x H1) → tv σ H R → tv σ H R') : tDisp [(tk, tv)] σ H Q := fun p hp => by
  refine mono _ _ _ _ (fun x H1 q1 => ?_) (k p hp)
  refine mono2 _ _ _ _ (fun y H2 q2 => ?_) q1
  obtain ⟨h1, kk, rfl, q⟩ := q2
  refine ⟨h1, [(kk, y)], rfl, (by show 1 ≤ 15; decide), ?_⟩
  have e : mergeK [] [(kk, y)] = [(kk, y)] := by simp [mergeK, putK]
  rw [e]
  exact q
theorem mono_c {v : V} : ∀ (σ : L2.St) (H : Hp) (R R' : VK), (∀ x H1, R x H1 → R' x H1) → tC v σ H R → tC v σ H R' := fun _ H _ _ h q => h v H q
theorem len_ok {xs : List V} (h : Nat.ble xs.length 100 = true) : xs.length ≤ sizeLine := Nat.le_trans (Nat.le_of_ble_eq_true h) (by decide)
theorem same_up {H H1 : Hp} {p : Addr} {o : HO} (s : Same H H1) (h : H1 p = none) : Same H (upd H1 p o) := s.trans (same_new h)
theorem nw_new {H : Hp} {p : Addr} {o : HO} (h : Nw H p) : Same H (upd H p o) := same_new h
theorem nw_up {H H1 : Hp} {p : Addr} {o : HO} (s : Same H H1) (h : Nw H1 p) : Same H (upd H1 p o) := same_up s h
theorem nw_ne {H : Hp} {a b : Addr} {o : HO} (h' : Nw H b) (h : H a = some o) : a ≠ b := ne_of_none h h'
theorem and_rfl {α : Type} {a : α} {R : Prop} (k : R) : a = a ∧ R := ⟨rfl, k⟩
theorem Sto.keep {p c : Addr} {H H' : Hp} (s : Sto H p c) (h : Same H H') : Sto H' p c := by
  obtain ⟨cells, at', bank, mx, cnt, h1, h2, h3⟩ := s
  exact ⟨cells, at', bank, mx, cnt, h _ _ h1, h _ _ h2, h3⟩
theorem Sto.mut {p c q : Addr} {H : Hp} {o : HO} (s : Sto H p c) (n : q ≠ p) (n2 : q ≠ c) : Sto (upd H q o) p c := by
  obtain ⟨cells, at', bank, mx, cnt, h1, h2, h3⟩ := s
  exact ⟨cells, at', bank, mx, cnt, (upd_ne n.symm).trans h1, (upd_ne n2.symm).trans h2, h3⟩
theorem Sto.ne {p c q : Addr} {H : Hp} (s : Sto H p c) (h : Nw H q) : q ≠ p ∧ q ≠ c := by
  obtain ⟨cells, at', bank, mx, cnt, h1, h2, h3⟩ := s
  exact ⟨(nw_ne h h1).symm, (nw_ne h h2).symm⟩
theorem SB.free {p q : Addr} {H H' : Hp} (s : SB p H H') (n : q ≠ p) (h : H' q = none) : H q = none := by
  cases e : H q with
  | none => rfl
  | some o =>
    rw [s _ _ n e] at h
    cases h
theorem SB.new {p q : Addr} {H H' : Hp} {o : HO} (s : SB p H H') (h : Nw H' q) : SB p H (L2.upd H' q o) := s.trans (SB.of (nw_new h))
theorem SB.mut {p q : Addr} {H H' : Hp} {o : HO} (s : SB p H H') (h : H q = none) : SB p H (L2.upd H' q o) := fun b u nb hb => by
  rw [upd_ne (ne_of_none hb h)]
  exact s b u nb hb
end Gx

set_option Elab.async false
set_option linter.all false
set_option maxRecDepth 100000
set_option maxHeartbeats 4000000
/-! Ge: own exceptions: X(), try with several named clauses, isinstance of the caught one. -/
namespace Gx
open PySem L2 PySem.Spec PyProof.Rows
section
variable {X : Cx}
/-- X(), X an own exception class without an __init__ of its own -/
theorem pmk_own0 {C : Addr} {bmB : List Value} {B newId initId : String} {x : Str} {p pos : Pos} (F : ExcBaseFacts B newId initId bmB) (q : PySem.W.excIn X.K C bmB newId = true) (gC : X.mg x = some (.ref C))
    (kC : PySem.W.keepIn X.K (.ref C) = true) (r : Raises X (.ref C)) (hg : Gl X x) (hdb : (x == ("__debug__" : Str)) = false := by decide) :
    PMk X (.Call (.Name x p) [] [] pos) (fun _ H Q => Q (.ref C) none H) := by
  intro pins s σ H Q I hq
  refine wpAny_Call_Name_kw (ld_glob I hg gC ?_ hdb)
  refine PySem.W.callWith_K0 I.kIn kC ?_
  show wpAny _ _ (call (.ref C) []) _ _ _
  obtain ⟨bm, N, nm, qn, bs, hdct, sn, sub, ab, col, dd, k0, k1, k2, k3, k5, mN, hC, hN, hni, T⟩ := exc_obj I.kIn q
  exact wpAny_call_exc_subT F T hC hN hni (fun h' e hm => mk_of I hm r hq (I.hok.gone hm.new)) (Nat.zero_le _)

/-! ### try with several clauses, named or not -/
structure Clause where
  cls : Value
  slot : Option Nat
  suite : Addr → Value → Option Addr → TS
def unslot (i : Option Nat) (D : Ends) : Ends := match i with
  | none => D
  | some i => ⟨fun σ H => D.nx (σ.set i none) H, D.rt, fun σ H => D.bk (σ.set i none) H, fun σ H => D.ct (σ.set i none) H⟩
def inslot (i : Option Nat) (a : Addr) (σ : L2.St) : L2.St := match i with
  | none => σ
  | some i => σ.set i (some (.ref a))
def wCls (K : PySem.W.Frag) (Wout : WX) (D : Ends) : List Clause → WX
  | [] => Wout
  | k :: r => fun cls d σ H => ∃ b, PySem.W.exmOne K cls k.cls = some b ∧ (b = true → ∀ a, H a = none → k.suite a cls d (unslot k.slot D) (inslot k.slot a σ) H) ∧ (b = false → wCls K Wout D r cls d σ H)
inductive ClsOk (X : Cx) : List ExceptHandler → List Clause → Prop
  | nil : ClsOk X [] []
  | cons {x : Str} {c : Value} {ts : Addr → Value → Option Addr → TS} {b₀ : Stmt} {suite : List Stmt} {np pos' : Pos} {hds : List ExceptHandler} {l : List Clause} (hc : Names X x c)
      (hsu : ∀ (a : Addr) (oe : Obj) (cls : Value) (d : Option Addr) (pn : List (Addr × Obj)), Zc cls d oe → (∃ vs, oe.data = .fields vs) → PSs (X.suite a ((a, oe) :: pn)) (b₀ :: suite) (ts a cls d)) (r : ClsOk X hds l) :
      ClsOk X (.ExceptHandler (some (.Name x np)) none (b₀ :: suite) pos' :: hds) (⟨c, none, ts⟩ :: l)
  | consAs {x n : Str} {i : Nat} {c : Value} {ts : Addr → Value → Option Addr → TS} {b₀ : Stmt} {suite : List Stmt} {np pos' : Pos} {hds : List ExceptHandler} {l : List Clause} (hN : X.N.Nodup) (hi : X.N[i]? = some n) (hln : X.env.kindOf n = some .local) (hc : Names X x c)
      (hsu : ∀ (a : Addr) (oe : Obj) (cls : Value) (d : Option Addr) (pn : List (Addr × Obj)), Zc cls d oe → (∃ vs, oe.data = .fields vs) → PSs (X.suite a ((a, oe) :: pn)) (b₀ :: suite) (ts a cls d)) (r : ClsOk X hds l) :
      ClsOk X (.ExceptHandler (some (.Name x np)) (some n) (b₀ :: suite) pos' :: hds) (⟨c, some i, ts⟩ :: l)
def tTryC (K : PySem.W.Frag) (tb : WX → TS) (Wout : WX) (l : List Clause) : TS := fun D σ H => tb (wCls K Wout D l) D σ H
theorem ps_try_cls {body : List Stmt} {h₀ : ExceptHandler} {hds : List ExceptHandler} {l : List Clause} {pos : Pos} {tb : WX → TS} {Wout : WX} (hs : X.stack = X.env :: X.outer) (hf : X.env.frame = some X.env.locals) (tk : Takes X Wout)
    (hb : ∀ (W : WX) (pn : List (Addr × Obj)) (xe : Value → Shared → Prop), Takes (X.tr pn xe) W → PassesOwn (model X.prog X.w) X.A X.env xe → PSs (X.tr pn xe) body (tb W))
    (hh : ClsOk X (h₀ :: hds) l) : PS X (.Try body (h₀ :: hds) [] [] pos) (tTryC X.K tb Wout l) := by
  refine ⟨fun pins s σ H D I h => ?_⟩
  have okX := I.ok
  have hframes : X.A.frames = some (X.env :: X.outer) := by rw [okX.frames, hs]
  refine wpAny_Try_except ?_
  refine wpAny_mono ((hb (wCls X.K Wout D l) (X.pn ++ pins) (fun e s₁ => wpAny (model X.prog X.w) X.A (noteFrame e X.env) (fun _ s₂ => wpAny (model X.prog X.w) X.A (setFlight e none) (fun _ s₃ =>
    wpAny (model X.prog X.w) X.A (handleBy e X.env (h₀ :: hds)) (SP X pins D) X.xe s₃) X.xe s₂) X.xe s₁) (fun u s' xx => ?_) PassesOwn.looking).run [] s σ H D (I.toTry _) h) (fun f s1 hsp => ?_) (fun e s1 he => he)
  · obtain ⟨a, B, sI, pins', σ', H', cls, d, rfl, J', nb, up, sky, na, os, ag, ww⟩ := xx
    have J : Inv X pins σ' H' sI := J'.ofTry okX
    have skyX : Sky B (X.env :: X.outer) a (Zc cls d) X.env.locals s'.heap := by rw [← hs]; exact sky
    show wpAny (model X.prog X.w) X.A (noteFrame (.ref a) X.env) _ _ _
    refine Sky.land Zc.steady hframes hf skyX fun h3 fl3 up3 => ?_
    have J3 : Inv X pins σ' H' { s' with heap := h3 } := J.landed nb fl3.1 (up.trans up3) os ag
    obtain ⟨oe3, vs3, he3, hz3, hd3⟩ := fl3.there
    have nfr : a ∉ frs (X.env :: X.outer) := fun hm => by
      obtain ⟨_, o', e', hnf⟩ := fl3.2.2.1.mem hm
      rw [he3] at e'; cases e'
      exact hnf _ hd3
    have nL : a ≠ X.env.locals := fun z => nfr (List.mem_filterMap.mpr ⟨X.env, List.mem_cons_self, by rw [hf, z]⟩)
    have nF : a ∉ X.fs := fun hm => by
      obtain ⟨e, he, q⟩ := List.mem_filterMap.mp hm
      exact nfr (List.mem_filterMap.mpr ⟨e, List.mem_cons_of_mem _ he, q⟩)
    have S3 := J3.suite he3 hd3 na nL nF
    have LT : PySem.W.Looks (model X.prog X.w) h3 (typeOf (.ref a)) cls := fun A Q E s k q => wpAny_typeOf_ref (k _ _ he3) (by rw [hz3.1]; exact q)
    have nameAt : ∀ {x : Str} {c : Value} {np : Pos}, Names X x c → ∀ {Q : Value → Shared → Prop} {E : Value → Shared → Prop}, Q c { s' with heap := h3 } → wpAny (model X.prog X.w) (X.A.mark (some (.ref a))) (eval (.Name x np) X.env) Q E { s' with heap := h3 } := fun {x c np} hc {Q E} q => by
      obtain ⟨hg, hdbg, hm | ⟨hm, hv, hnn⟩⟩ := hc
      · exact ld_glob (X := X.suite a ((a, oe3) :: (X.pn ++ pins))) S3 hg hm q hdbg
      · exact ld_blt (X := X.suite a ((a, oe3) :: (X.pn ++ pins))) S3 hg hm hv q hnn hdbg
    have go : ∀ {hds' : List ExceptHandler} {l' : List Clause}, ClsOk X hds' l' → wCls X.K Wout D l' cls d σ' H' →
        wpAny (model X.prog X.w) X.A (handleBy (.ref a) X.env hds') (SP X pins D) X.xe { s' with heap := h3 } := by
      intro hds' l' hk
      induction hk with
      | nil =>
        intro ww
        refine wpAny_handleBy_nil ?_
        obtain ⟨k1, k2, k3, oe, vs, T, oT, ts', he, hz, hd, h1, hr⟩ := id fl3
        unfold PySem.passOn
        refine wpAny_bind (wpAny_field he hd h1 ?_)
        rw [if_neg (show ¬ ((Value.ref T == Value.none) = true) from by simp)]
        have fin : wpAny (model X.prog X.w) X.A (setFlight (.ref a) X.env.frame) (fun _ s4 => wpAny (model X.prog X.w) X.A (throw (.ref a) : Sem Flow) (SP X pins D) X.xe s4) X.xe { s' with heap := h3 } := by
          rw [hf]
          refine HandSPX.setFlight_upZ fl3 fun h4 hh4 up4 => wpAny_throw (tk _ _ ?_)
          exact ⟨a, B, sI, pins, σ', H', cls, d, rfl, J, nb, (up.trans up3).trans up4, .inr (.inr (by rw [hs]; exact hh4)), na, os, ag, ww⟩
        first
          | exact wpAny_bind (wpAny_pure (wpAny_bind fin))
          | exact wpAny_bind fin
      | @cons x c ts b₀ suite np pos' hds2 l2 hc hsu r ih =>
        intro ww
        obtain ⟨b, hb1, hyes, hno⟩ := ww
        refine wpAny_handleBy_cons (codeAny_handlers_test ?_) (by intro q; cases q)
        refine nameAt hc ((PySem.W.exm_one (M := model X.prog X.w) J3.kIn LT hb1).here ?_)
        cases b with
        | false => exact ih (hno rfl)
        | true =>
          refine codeAny_handlers_suite ?_
          refine HandSPX.lands_againZ fl3 fun h4 fl4 up4 => ?_
          have J4 : Inv X pins σ' H' { s' with heap := h4 } := J.landed nb fl4.1 ((up.trans up3).trans up4) os ag
          obtain ⟨oe4, vs4, he4, hz4, hd4⟩ := fl4.there
          have S4 := J4.suite he4 hd4 na nL nF
          refine wpAny_mono ((hsu a oe4 cls d (X.pn ++ pins) hz4 ⟨_, hd4⟩).run [] _ _ H' _ S4 (hyes rfl a na)) (fun f s6 hsp => ?_) (fun _ _ z => False.elim z)
          cases f with
          | ret u =>
            obtain ⟨v6, σ6, H6, S6, r6, q6⟩ := hsp
            exact ⟨_, _, _, S6.unsuite okX, r6, q6⟩
          | _ =>
            obtain ⟨σ6, H6, S6, q6⟩ := hsp
            exact ⟨_, _, S6.unsuite okX, q6⟩
      | @consAs x n i c ts b₀ suite np pos' hds2 l2 hN hi hln hc hsu r ih =>
        intro ww
        obtain ⟨b, hb1, hyes, hno⟩ := ww
        refine wpAny_handleBy_cons (codeAny_handlers_test ?_) (by intro q; cases q)
        refine nameAt hc ((PySem.W.exm_one (M := model X.prog X.w) J3.kIn LT hb1).here ?_)
        cases b with
        | false => exact ih (hno rfl)
        | true =>
          refine codeAny_handlers_suite_as ?_
          refine HandSPX.lands_againZ fl3 fun h4 fl4 up4 => ?_
          have J4 : Inv X pins σ' H' { s' with heap := h4 } := J.landed nb fl4.1 ((up.trans up3).trans up4) os ag
          obtain ⟨oe4, vs4, he4, hz4, hd4⟩ := fl4.there
          have S4 := J4.suite he4 hd4 na nL nF
          have hloc : Loc X.env.scope n := .inl hln
          refine store_ok (X := X.suite a ((a, oe4) :: (X.pn ++ pins))) (v := .ref a) S4 hN hi hloc rfl (fun s5 S5 => ?_) (.inr hln)
          refine wpAny_mono ((hsu a oe4 cls d (X.pn ++ pins) hz4 ⟨_, hd4⟩).run [] s5 _ H' _ S5 (hyes rfl a na)) (fun f s6 hsp => ?_) (fun _ _ z => False.elim z)
          cases f with
          | ret u =>
            obtain ⟨v6, σ6, H6, S6, r6, q6⟩ := hsp
            exact gone_ok (S6.unsuite okX) hN hi hln fun s7 J7 => ⟨_, _, _, J7, r6, q6⟩
          | _ =>
            obtain ⟨σ6, H6, S6, q6⟩ := hsp
            exact gone_ok (S6.unsuite okX) hN hi hln fun s7 J7 => ⟨_, _, J7, q6⟩
    exact go hh ww
  · cases f with
    | next =>
      obtain ⟨σ', H', J', q⟩ := hsp
      exact wpAny_execs_nil ⟨σ', H', J'.ofTry okX, q⟩
    | brk =>
      obtain ⟨σ', H', J', q⟩ := hsp
      exact ⟨σ', H', J'.ofTry okX, q⟩
    | cont =>
      obtain ⟨σ', H', J', q⟩ := hsp
      exact ⟨σ', H', J'.ofTry okX, q⟩
    | ret u =>
      obtain ⟨v, σ', H', J', r, q⟩ := hsp
      exact ⟨v, σ', H', J'.ofTry okX, r, q⟩
end
end Gx
namespace Gx
open PySem L2 PySem.Spec PyProof.Rows
/-- what an own exception class says, so that its instances may be asked -/
structure ExC (K : PySem.W.Frag) (D : Addr) : Prop where
  ga : PySem.W.findIn K (.ref D) "__getattribute__" = some (some (.builtin "BaseException.__getattribute__"))
  gg : PySem.W.findIn K (.ref D) "__getattr__" = some none
  exC : PySem.W.subIn K (.ref D) (.type "BaseException") = some true
  hd : PySem.W.hasDictIn K D = true
  cl : PySem.W.findIn K (.ref D) "__class__" = some (some (.builtin "object.__class__"))
  sn : PySem.W.specialIn K (.builtin "object.__class__") "__get__" = some (some (.builtin "getset_descriptor.__get__"))
  tk : PySem.W.takesIn K (.builtin "object.__class__") = some true
  mo : PySem.W.mroIn K D (.type "object") = some true
theorem ExC.cls {K : PySem.W.Frag} {D : Addr} (c : ExC K D) : (PySem.W.clsIn K D).isSome = true := by
  obtain ⟨cd, h, _⟩ := PySem.W.any_some c.hd
  rw [h]; rfl
theorem ExC.xf {K : PySem.W.Frag} {D : Addr} (c : ExC K D) : XfC K D := ⟨c.ga, c.gg, c.exC, c.hd⟩
/-- the exception's own dict, if it has one, stands -/
def DictSt (H : Hp) : Option Addr → Prop
  | none => True
  | some dd => ∃ fs, H dd = some (.xd fs)
def rIsX (K : PySem.W.Frag) (a : Addr) (cls : Value) (d : Option Addr) : List V → Hp → VK → Prop := fun xs H Q => ∃ (D : Addr) (c : V) (cv : Value) (b : Bool),
  cls = .ref D ∧ ExC K D ∧ DictSt H d ∧ xs = [.ref a, c] ∧ ClsV c cv ∧ PySem.W.kitOne K (.ref D) cv = some b ∧ Q (.bl b) H
def rIsX2 (K : PySem.W.Frag) (a : Addr) (cls : Value) (d : Option Addr) : List V → Hp → VK → Prop := fun xs H Q => ∃ (D tp : Addr) (cs : List V) (us : List Value) (b : Bool),
  cls = .ref D ∧ ExC K D ∧ DictSt H d ∧ xs = [.ref a, .ref tp] ∧ H tp = some (.tup cs) ∧ Paired ClsV cs us ∧ PySem.W.kitAny K (.ref D) us = some b ∧ Q (.bl b) H
section
variable {X : Cx} {a : Addr} {cls : Value} {d : Option Addr} {oe : Obj} {pn : List (Addr × Obj)}
theorem inst_suite {pins : List (Addr × Obj)} {σ : L2.St} {H : Hp} {s : Shared} {D : Addr} (I : Inv (X.suite a ((a, oe) :: pn)) pins σ H s) (hz : Zc (.ref D) d oe) (hf : ∃ vs, oe.data = .fields vs) (hd : DictSt H d) :
    ∃ od, PySem.W.InstAt s.heap a oe D od := by
  obtain ⟨ha, _⟩ := I.pin (a, oe) (List.mem_append_left _ List.mem_cons_self)
  obtain ⟨vs, hv⟩ := hf
  have nc : PySem.W.notCls oe = true := by unfold PySem.W.notCls; rw [hv] <;> rfl
  cases d with
  | none => exact ⟨none, ha, hz.1, nc, by rw [hz.2]; trivial⟩
  | some dd =>
    obtain ⟨fs, h⟩ := hd
    obtain ⟨mA, hns, _⟩ := (show ObjOk X.prog X.w H s.heap dd (.xd fs) from I.hok dd _ h)
    obtain ⟨od, ho, _⟩ := lookIn_ns hns
    exact ⟨some od, ha, hz.1, nc, by rw [hz.2]; exact ho⟩
def rIsXG (K : PySem.W.Frag) (a : Addr) (cls : Value) (d : Option Addr) : List V → Hp → VK → Prop := fun xs H Q => rIsX K a cls d xs H Q ∨ rIsX2 K a cls d xs H Q
theorem call_isX (hz : Zc cls d oe) (hf : ∃ vs, oe.data = .fields vs) : CallR (X.suite a ((a, oe) :: pn)) (.builtin "isinstance") (rIsXG X.K a cls d) := by
  intro pins s σ H xs us Q I r h
  rcases h with ⟨D, c, cv, b, rfl, C, hd, rfl, hc, e, q⟩ | ⟨D, tp, cs, vs, b, rfl, C, hd, rfl, ht, hc, e, q⟩
  · obtain ⟨u1, u2, rfl, r1, r2⟩ := vals2 r
    cases (show u1 = Value.ref a from r1)
    have e2 := hc.eq r2
    subst e2
    obtain ⟨od, J⟩ := inst_suite I hz hf hd
    exact PySem.W.kia_one (PySem.W.kitx_exc (od := od) C.cls C.ga C.gg C.exC C.cl C.sn C.tk C.mo) I.kIn J e (fun z => nomatch z) fun tk => ⟨.bl b, H, I.tok tk, rfl, q⟩
  · obtain ⟨u1, u2, rfl, r1, r2⟩ := vals2 r
    cases (show u1 = Value.ref a from r1)
    cases (show u2 = Value.ref tp from r2)
    obtain ⟨od, J⟩ := inst_suite I hz hf hd
    obtain ⟨_, its, rv, o, h1, h2, n, h3⟩ := (show ObjOk X.prog X.w H s.heap tp (.tup cs) from I.hok tp _ ht)
    have e3 := ClsV.all hc rv
    subst e3
    obtain ⟨oc, od', dt, sl⟩ := o
    simp only at h2 h3
    subst h2 h3
    exact PySem.W.kia_tup (PySem.W.kitx_exc (od := od) C.cls C.ga C.gg C.exC C.cl C.sn C.tk C.mo) I.kIn J h1 e (fun z => nomatch z) fun tk => ⟨.bl b, H, I.tok tk, rfl, q⟩
end
end Gx
namespace Gx
open PySem L2 PySem.Spec PyProof.Rows
/-! ### raise C(e), C's own __init__ storing its one argument -/
def spInit1 (K : PySem.W.Frag) (C : Addr) (f : Str) : Sp := fun vs H Q _ => ∃ (a : Addr) (v : V), vs = [.ref a, v] ∧ H a = some (exo a C none) ∧
  ∀ dx, H dx = none → dx ≠ a → Q .non (upd (upd H dx (exd dx [(f, v)])) a (exo a C (some dx)))
def tRaise1 (C : Addr) (f : Str) (W : WX) (ta : TA) : TS := fun _ σ H => ta σ H fun vs H1 => ∃ v, vs = [v] ∧ ∀ d H2, H1 d = none → Same H1 H2 → H2 d = some (.xd [(f, v)]) → W (.ref C) (some d) σ H2
theorem PS.imp {X : Cx} {st : Stmt} {t t' : TS} (h : PS X st t) (i : ∀ D σ H, t' D σ H → t D σ H) : PS X st t' := ⟨fun pins s σ H D I q => h.run pins s σ H D I (i D σ H q)⟩
theorem ps_raise1 {X : Cx} {x f : Str} {C fI : Addr} {k : Nat} {fd : FuncData} {ps : List Str} {W : WX} {e : Expr} {ta : TA} {p pos pos2 : Pos} (hc : X.calm = true) (tk : Takes X W) (T : OexC X.K C)
    (iC : PySem.W.findIn X.K (.ref C) "__init__" = some (some (.ref fI))) (tI : PySem.W.typeIn X.K (.ref fI) = some (.type "function"))
    (F1 : FnOk X.prog X.w X.K X.mg X.base CX0 k fI fd ps (spInit1 X.K C f)) (hr : Room (k + 1) X.A) (hb : Binds X.K fd ps []) (hm : X.mg x = some (.ref C)) (ha : PA X [e] ta)
    (mono : ∀ σ H Q Q', (∀ vs H1, Q vs H1 → Q' vs H1) → ta σ H Q → ta σ H Q')
    (hg : Gl X x := by rfl) (hdb : (x == ("__debug__" : Str)) = false := by decide) (he : starEach (e :: []) X.env = (false, eval e X.env) :: starEach [] X.env := by rfl) (hpl : (backTo pos (starEach [] X.env)).any (·.1) = false := by rfl) :
    PS X (.Raise (some (.Call (.Name x p) [e] [] pos)) none pos2) (tRaise1 C f W ta) := by
  refine PS.imp (ps_raise hc tk (pmk_oex (dvs := []) T iC tI F1 hr hb .nil pass0 hg hm ha hdb he hpl)) fun D σ H q => ?_
  refine mono σ H _ _ (fun vs H1 z => ?_) q
  obtain ⟨v, rfl, kk⟩ := z
  refine ⟨(by show 1 ≤ 1000; decide), fun a ha => ⟨a, v, rfl, upd_same, fun dx hd hne => ⟨rfl, dx, [(f, v)], upd_same, ?_, ?_, ?_⟩⟩⟩
  · rw [upd_ne hne, upd_same]
  · rw [upd_ne hne] at hd
    exact hd
  · have hd1 : H1 dx = none := by rw [upd_ne hne] at hd; exact hd
    refine kk dx _ hd1 (fun b o hb => ?_) upd_same
    have n1 : b ≠ dx := ne_of_none hb hd1
    have n2 : b ≠ a := ne_of_none hb ha
    rw [upd_ne n1, del_ne n2, upd_ne n2, upd_ne n1, upd_ne n2]
    exact hb
theorem mono_cv {i : Nat} : ∀ (σ : L2.St) (H : Hp) (Q Q' : List V → Hp → Prop), (∀ vs H1, Q vs H1 → Q' vs H1) → tCons (tVar i) tNil σ H Q → tCons (tVar i) tNil σ H Q' := fun _ _ _ _ h q => by
  obtain ⟨v, e, q⟩ := q
  exact ⟨v, e, h _ _ q⟩
theorem mono_cc {v : V} : ∀ (σ : L2.St) (H : Hp) (Q Q' : List V → Hp → Prop), (∀ vs H1, Q vs H1 → Q' vs H1) → tCons (tC v) tNil σ H Q → tCons (tC v) tNil σ H Q' := fun _ _ _ _ h q => h _ _ q
def tRaise0 (C : Addr) (W : WX) : TS := fun _ σ H => W (.ref C) none σ H
theorem ps_raise0 {X : Cx} {x : Str} {C : Addr} {W : WX} {p pos pos2 : Pos} (hc : X.calm = true) (tk : Takes X W) (q : PySem.W.excIn X.K C [.type "ValueError", .type "Exception", .type "BaseException", .type "object"] "ValueError.__new__" = true)
    (gC : X.mg x = some (.ref C)) (kC : PySem.W.keepIn X.K (.ref C) = true) (h1 : PySem.W.subIn X.K (.ref C) (.type "BaseException") = some true) (h2 : PySem.W.typeIn X.K (.ref C) = some (.type "type")) (hg : Gl X x := by rfl)
    (hdb : (x == ("__debug__" : Str)) = false := by decide) : PS X (.Raise (some (.Call (.Name x p) [] [] pos)) none pos2) (tRaise0 C W) :=
  ps_raise hc tk (pmk_own0 PySem.F.excBase_ValueError q gC kC (raises_own h1 h2) hg hdb)
end Gx
namespace Gx
open PySem L2 PySem.Spec PyProof.Rows
section
variable {K : PySem.W.Frag} {σ : L2.St} {H : Hp} {n b c : L2.St → Hp → Prop} {rt : VK} {Wout : WX} {cls c0 : Value} {d : Option Addr} {i : Nat} {ts : Addr → Value → Option Addr → TS} {r : List Clause}
theorem r_isX {a D : Addr} {cx : V} {cv : Value} {bb : Bool} {Q : VK} (C : ExC K D) (hd : DictSt H d) (hc : ClsV cx cv) (hk : PySem.W.kitOne K (.ref D) cv = some bb) (k : Q (.bl bb) H) : rIsXG K a (.ref D) d [.ref a, cx] H Q :=
  .inl ⟨D, cx, cv, bb, rfl, C, hd, rfl, hc, hk, k⟩
theorem r_isX2 {a D tp : Addr} {cs : List V} {us : List Value} {bb : Bool} {Q : VK} (C : ExC K D) (hd : DictSt H d) (ht : H tp = some (.tup cs)) (hc : Paired ClsV cs us) (hk : PySem.W.kitAny K (.ref D) us = some bb) (k : Q (.bl bb) H) : rIsXG K a (.ref D) d [.ref a, .ref tp] H Q :=
  .inr ⟨D, tp, cs, us, bb, rfl, C, hd, rfl, ht, hc, hk, k⟩
end
end Gx

set_option Elab.async false
set_option linter.all false
set_option maxRecDepth 100000
set_option maxHeartbeats 4000000
/-! Gn: enumerate over a tuple. -/
namespace Gx
open PySem L2 PySem.Spec PyProof.Rows
theorem meets_enum1 {v : Value} {o : Obj} {H : Heap → Prop} (B : Begins v o H) :
    Meets (Builtin.«enumerate.__new__» ⟨[.type "enumerate", v], []⟩) (fun _ R s => H s.heap ∧
      R (.ok (.ret (.ref (s.heap.push o).objs.size))) { s with heap := (s.heap.push o).push { cls := .type "enumerate", data := .fields #[.none, .bool false, .ref s.heap.objs.size, rawInt 0, .none, .none] } }) :=
  .of_wp fun prog w A R s h => by
    obtain ⟨hp, g, d, tk, os⟩ := s
    obtain ⟨h1, h⟩ := h
    have hsub := sub_enumerate
    have q1 : ∀ {A' : Around} {E : Value → Shared → Prop} {Q : Value → Shared → Prop}, Q (.ref hp.objs.size) ⟨hp.push o, g, d, tk, os⟩ → wpAny (model prog w) A' (pyIter v) Q E ⟨hp, g, d, tk, os⟩ :=
      fun q => B.iter prog w _ _ ⟨hp, g, d, tk, os⟩ _ h1 q
    wp_walk using q1
    refine wpAny_stack_any fun st => wpAny_pure ?_
    split
    · rename_i c _ _ _ _ _
      cases (c == Value.type "enumerate")
      · wp_walk using q1
        exact ⟨_, rfl, h⟩
      · wp_walk using q1
        exact ⟨_, rfl, h⟩
    · wp_walk using q1
      exact ⟨_, rfl, h⟩
section
variable {prog : Program} {w : World} {A : Around} {E : Value → Shared → Prop} {s : Shared}
theorem call_enum1 {v : Value} {o : Obj} {H : Heap → Prop} {Q : Value → Shared → Prop} (B : Begins v o H) (h1 : H s.heap)
    (h : ∀ h', IsEnum h' (s.heap.objs.size + 1) s.heap.objs.size 0 .none → h'.get? s.heap.objs.size = some o → h'.objs.size = s.heap.objs.size + 2 →
      (∀ b o, s.heap.get? b = some o → h'.get? b = some o) → Q (.ref (s.heap.objs.size + 1)) { s with heap := h' }) :
    wpAny (model prog w) A (call (.type "enumerate") [v]) Q E s := by
  refine callType_new F.called_enumerate (by decide) (F.typeCall_enumerate_1 _) (F.newCall_enumerate_1 _) (fun obj => F.args_object_init_2 obj _) F.entry_enumerate_new (meets_enum1 B) ⟨h1, ?_⟩
  have hz : (s.heap.push o).objs.size = s.heap.objs.size + 1 := Heap.size_push ..
  show _ ∧ _
  rw [hz]
  have he : IsEnum ((s.heap.push o).push { cls := .type "enumerate", data := .fields #[.none, .bool false, .ref s.heap.objs.size, rawInt 0, .none, .none] }) (s.heap.objs.size + 1) s.heap.objs.size 0 .none := by
    have := Heap.get?_push_size (s.heap.push o) (o := { cls := .type "enumerate", data := .fields #[.none, .bool false, .ref s.heap.objs.size, rawInt 0, .none, .none] }) rfl
    rw [hz] at this
    exact this
  exact ⟨⟨_, he, rfl⟩, h _ he (Heap.get?_push_of_some _ (Heap.get?_push_size _ B.free)) (by rw [Heap.size_push, hz]) fun b o x => Heap.get?_push_of_some _ (Heap.get?_push_of_some _ x)⟩
end
/-- the tuple at a, each member in a new pair behind its number -/
def IteT (K : PySem.W.Frag) (a : Addr) : It :=
  ⟨fun i H => ∃ (xs : List V) (x : V), SqT K H a xs ∧ xs[i]? = some x, fun i H v H' => ∃ T x, v = .ref T ∧ H T = none ∧ H' = upd H T (.tup [.int (i : Nat), x]) ∧ ∀ xs, SqT K H a xs → xs[i]? = some x, fun i H => ∃ xs : List V, SqT K H a xs ∧ xs.length = i⟩
theorem turn_enumT {P : Program} {w : World} {K : PySem.W.Frag} {elts : List Expr} {kk : Nat} {tpos : Pos} (a e it : Addr) :
    Turn P w K (.Tuple elts kk tpos) (IteT K a) [e, it] e (fun i h => (∃ old, IsEnum h e it ((i : Nat) : Int) old) ∧ h.IsTupleIter it a i ∧ e ≠ it ∧ a ≠ it ∧ e ≠ a) where
  mem := by simp
  obj := fun i h st b hb => by
    obtain ⟨⟨old, he⟩, ⟨o, ho, hc, hd⟩, _⟩ := st
    rcases (show b = e ∨ b = it by simpa using hb) with z | z
    · rw [z]; exact ⟨_, he, fun v q => nomatch q⟩
    · rw [z]; exact ⟨o, ho, fun v q => by rw [hd] at q; cases q⟩
  keep := fun i h h' st k => let ⟨⟨old, he⟩, hi, hne⟩ := st; ⟨⟨old, k e (by simp) _ he⟩, hi.at fun o q => k it (by simp) o q, hne⟩
  item := by
    intro X hP hw hK hc i pins s σ H E I hf st hg
    subst hP hw hK
    obtain ⟨⟨old, he⟩, hit, hne, hai, hea⟩ := st
    obtain ⟨xs, x, hq, hx⟩ := hg
    obtain ⟨its, rv, p, hz⟩ := I.tuple hq
    obtain ⟨u, hu, ru⟩ := rv.get hx
    have hel : e < s.heap.objs.size := Heap.lt_size he
    have hil : it < s.heap.objs.size := by obtain ⟨_, q, _⟩ := hit; exact Heap.lt_size q
    have hh : X.A.in1.handled = none := I.ok.hd hc
    have hlt : i < its.toArray.size := by
      rw [List.size_toArray]
      exact (List.getElem?_eq_some_iff.mp hu).1
    refine wpAny_pyNext_enum_itemD (Draws.tuple hh it a hai its.toArray) he ⟨hit, p⟩ hlt hne (by simp [hne, hea]) fun y h' tk hy ho hst hT hsz hk => ?_
    have ey : y = u := by
      have : its.toArray[i]? = some u := by simpa using hu
      rw [this] at hy
      exact (Option.some.inj hy).symm
    subst ey
    refine ⟨_, rfl, wpAny_letOwnedTupleGo_enum (s := { s with heap := h', toks := tk + 1 }) ho fun h'' he' sb => ?_⟩
    have hT2 : h''.get? s.heap.objs.size = some { cls := .type "tuple", data := .seq #[.int i tk, y] } := (sb.2 _ (Nat.ne_of_gt hel)).trans hT
    have new : ObjOk X.prog X.w (upd H s.heap.objs.size (.tup [.int (i : Nat), x])) h'' s.heap.objs.size (.tup [.int (i : Nat), x]) :=
      ⟨by show 2 ≤ sizeLine; decide, [.int i tk, y], .cons ⟨_, rfl⟩ (.cons ru .nil), ⟨_, hT2, rfl, _, rfl⟩⟩
    have I1 : Inv X pins σ (upd H s.heap.objs.size (.tup [.int (i : Nat), x])) { s with heap := h'', toks := tk + 1 } :=
      I.turnedNew (ch := [e, it]) (fun b ob hb q => (sb.2 b (fun z => hb (by simp [z]))).trans (hk b ob (fun z => hb (by simp [z])) (fun z => hb (by simp [z])) q)) hf (Nat.le_refl _) new
    refine ⟨.ref s.heap.objs.size, _, I1, rfl, ⟨_, x, rfl, I.hok.fresh (Nat.le_refl _), rfl, fun ys hy => by rw [I.tuple_inj hy hq]; exact hx⟩, ⟨⟨y, ?_⟩, hst.1.at fun o q => (sb.2 it (Ne.symm hne)).trans q, hne, hai, hea⟩, fun b hb => ?_⟩
    · have e1 : ((i + 1 : Nat) : Int) = (i : Int) + 1 := by omega
      rw [e1]; exact he'
    · have hb' : b < s.heap.objs.size := by
        rcases (show b = e ∨ b = it by simpa using hb) with z | z
        · rw [z]; exact hel
        · rw [z]; exact hil
      rw [upd_ne (Nat.ne_of_lt hb')]
      exact (hf b hb).1
  done := by
    intro X hP hw hK hc i pins s σ H E I hf st hg
    subst hP hw hK
    obtain ⟨⟨old, he⟩, hit, hne, hai, hea⟩ := st
    obtain ⟨xs, hq, hx⟩ := hg
    obtain ⟨its, rv, p, hz⟩ := I.tuple hq
    obtain ⟨f0, f1, f2, f3, f4, f5⟩ := hf it (by simp)
    have hl := rv.length
    have hh : X.A.in1.handled = none := I.ok.hd hc
    have hn : i = its.toArray.size := by rw [List.size_toArray, ← hl]; exact hx.symm
    subst hn
    exact wpAny_pyNext_enum_endD (Draws.tuple hh it a hai its.toArray) he ⟨hit, p⟩ fun h' eb => ⟨rfl, I.turned (t' := s.toks) (fun b o hb q => eb b o hb q) f0 f1 f3 f4 f5⟩
  self := fun A i s Q E st h => let ⟨⟨_, he⟩, _⟩ := st; wpAny_pyIter_enum he h
def iEnumT (K : PySem.W.Frag) (ta : TA) : TI := fun σ H R => ta σ H fun vs H1 => ∃ a xs, vs = [.ref a] ∧ SqT K H1 a xs ∧ R (IteT K a) H1
theorem pi_enumT {X : Cx} {e : Expr} {ta : TA} {p pos tpos : Pos} {elts : List Expr} {kk : Nat} (hg : Gl X "enumerate") (hm : X.mg "enumerate" = none) (ha : PA X [e] ta) (hs : starEach [e] X.env = [(false, eval e X.env)] := by rfl) :
    PI X (.Tuple elts kk tpos) (.Call (.Name "enumerate" p) [e] [] pos) (iEnumT X.K ta) := by
  refine ⟨fun pins s σ H R I h => ?_⟩
  refine Call_ (ld_blt I hg hm boot_enumerate (PyProof.Rows.callWith_type1 (thn (ha.run pos pins s σ H _ I h) fun us s1 ⟨vs, H1, I1, r1, q1⟩ => ?_) hs rfl))
  obtain ⟨a, xs, rfl, hq, q⟩ := q1
  obtain ⟨u, rfl, r⟩ := vals1 r1
  cases (show u = Value.ref a from r)
  obtain ⟨its, rv, p', hz⟩ := I1.tuple hq
  have al : a < s1.heap.objs.size := by obtain ⟨o, q, _⟩ := p'; exact Heap.lt_size q
  refine call_enum1 (begins_tuple a its.toArray) p' fun h' he hit hsz hk => wpAny_pyIter_enum he ?_
  have I2 : Inv X pins σ H1 { s1 with heap := h' } := I1.kept (t' := s1.toks) hk
  refine ⟨s1.heap.objs.size + 1, [s1.heap.objs.size + 1, s1.heap.objs.size], _, _, H1, rfl, I2, turn_enumT a (s1.heap.objs.size + 1) s1.heap.objs.size, ⟨⟨.none, he⟩, ⟨_, hit, rfl, rfl⟩, Nat.succ_ne_self _, Nat.ne_of_lt al, Nat.ne_of_gt (Nat.lt_succ_of_lt al)⟩, fun b hb => ?_, q⟩
  have hle : s1.heap.objs.size ≤ b := by
    rcases (show b = s1.heap.objs.size + 1 ∨ b = s1.heap.objs.size by simpa using hb) with z | z
    · rw [z]; exact Nat.le_add_right _ _
    · rw [z]; exact Nat.le_refl _
  exact I1.fpOk hle (I1.hok.fresh hle)

section
variable {σ : L2.St} {H : Hp} {nn : L2.St → Hp → Prop} {rt : VK} {g : TG} {tb : TS} {K : PySem.W.Frag} {ta : TA}
theorem g_tup {n : Nat} {t : TGs} {p : Addr} {xs : List V} {Q : L2.St → Hp → Prop} (h : H p = some (.tup xs)) (hl : xs.length = n) (k : t xs σ H Q) : gTup K n t (.ref p) σ H Q := ⟨p, xs, rfl, SqT.of h, hl, k⟩
theorem g_cons {t : TG} {u : TGs} {v : V} {r : List V} {Q : L2.St → Hp → Prop} (k : t v σ H fun σ' H' => u r σ' H' Q) : gCons t u (v :: r) σ H Q := ⟨v, r, rfl, k⟩
theorem g_nil {Q : L2.St → Hp → Prop} (k : Q σ H) : gNil [] σ H Q := ⟨rfl, k⟩
end
end Gx
namespace Gx
open PySem L2 PySem.Spec PyProof.Rows
/-! ### the same rules with the written part named -/
section
variable {X : Cx}
theorem k_add (K : PySem.W.Frag) (hK : X.K = K := by rfl) : OpR X (binaryOp .Add) (rAddG K) := by subst hK; exact op_addG
theorem k_eq (K : PySem.W.Frag) (hu : X.A.units + 64 < cLine) (hK : X.K = K := by rfl) : OpR X (compareOp .Eq) (rEqG K) := by subst hK; exact op_eqG hu
theorem k_ne (K : PySem.W.Frag) (hu : X.A.units + 64 < cLine) (hK : X.K = K := by rfl) : OpR X (compareOp .NotEq) (rNeG K) := by subst hK; exact op_neG hu
theorem k_in (K : PySem.W.Frag) (hK : X.K = K := by rfl) : OpR X (compareOp .In) (rIn K false) := by subst hK; exact op_in_seq
theorem k_isi (K : PySem.W.Frag) (hK : X.K = K := by rfl) : CallR X (.builtin "isinstance") (rIsiG K) := by subst hK; exact call_isiG
theorem k_len (K : PySem.W.Frag) (hK : X.K = K := by rfl) : CallR X (.builtin "len") (rLenG K) := by subst hK; exact call_lenG
theorem k_list (K : PySem.W.Frag) (hK : X.K = K := by rfl) : CallR X (.type "list") (rListG K) := by subst hK; exact call_listG
theorem k_tup (K : PySem.W.Frag) (hK : X.K = K := by rfl) : CallR X (.type "tuple") (rTupG K) := by subst hK; exact call_tupG
theorem k_ix (K : PySem.W.Frag) (hK : X.K = K := by rfl) : IxR X (rIx K) := by subst hK; exact ix_seq
end
section
variable {X : Cx} {e tg : Expr} {te : TE}
theorem kp_list (K : PySem.W.Frag) (h : PE X e te) (hK : X.K = K := by rfl) : PI X tg e (iList K te) := by subst hK; exact pi_list h
theorem kp_tup (K : PySem.W.Frag) (h : PE X e te) (hK : X.K = K := by rfl) : PI X tg e (iTup K te) := by subst hK; exact pi_tup h
theorem kp_enum {e : Expr} {ta : TA} {p pos tpos : Pos} {elts : List Expr} {kk : Nat} (K : PySem.W.Frag) (hg : Gl X "enumerate") (hm : X.mg "enumerate" = none) (ha : PA X [e] ta) (hs : starEach [e] X.env = [(false, eval e X.env)] := by rfl) (hK : X.K = K := by rfl) :
    PI X (.Tuple elts kk tpos) (.Call (.Name "enumerate" p) [e] [] pos) (iEnum K ta) := by subst hK; exact pi_enum hg hm ha hs
theorem kp_enumT {e : Expr} {ta : TA} {p pos tpos : Pos} {elts : List Expr} {kk : Nat} (K : PySem.W.Frag) (hg : Gl X "enumerate") (hm : X.mg "enumerate" = none) (ha : PA X [e] ta) (hs : starEach [e] X.env = [(false, eval e X.env)] := by rfl) (hK : X.K = K := by rfl) :
    PI X (.Tuple elts kk tpos) (.Call (.Name "enumerate" p) [e] [] pos) (iEnumT K ta) := by subst hK; exact pi_enumT hg hm ha hs
theorem kg_tup {es : List Expr} {k : Nat} {t : TGs} {n : Nat} {pos : Pos} (K : PySem.W.Frag) (hc : X.calm = true) (h : PGs X es t) (hn : (assignEach es X.env).length = n := by rfl) (hst : (assignEach es X.env).findIdx? (·.1) = none := by rfl) (hK : X.K = K := by rfl) : PG X (.Tuple es k pos) (gTup K n t) := by subst hK; exact pg_tup hc h hn hst
theorem kp_fld {f : Str} {pos : Pos} (K : PySem.W.Frag) (he : PE X e te) (hb : attributeBase e f X.env (eval e X.env) = eval e X.env) (hK : X.K = K := by rfl) : PE X (.Attribute e f pos) (tFld K te f) := by subst hK; exact pe_fld he hb
end
end Gx
namespace Gx
open PySem L2 PySem.Spec PyProof.Rows
/-- a list or a tuple of these values stands at p -/
def SeqAt' (H : Hp) (p : Addr) (xs : List V) : Prop := H p = some (.lst xs) ∨ H p = some (.tup xs)
theorem SeqAt'.keep {H H' : Hp} {p : Addr} {xs : List V} (h : SeqAt' H p xs) (k : ∀ o, H p = some o → H' p = some o) : SeqAt' H' p xs := h.elim (fun e => .inl (k _ e)) fun e => .inr (k _ e)
theorem SeqAt'.same {H H' : Hp} {p : Addr} {xs : List V} (h : SeqAt' H p xs) (s : Same H H') : SeqAt' H' p xs := h.keep fun o e => s p o e
section
variable {σ : L2.St} {H : Hp} {nn : L2.St → Hp → Prop} {rt : VK} {g : TG} {tb : TS} {K : PySem.W.Frag} {p : Addr} {xs : List V} {j : Nat}
theorem DvL.drop : ∀ {ds : List D} {vs : List V} (n : Nat), DvL H vs ds → DvL H (vs.drop n) (ds.drop n)
  | ds, vs, 0, q => by simpa using q
  | [], vs, n + 1, q => by rw [show vs = [] from q]; rfl
  | d :: ds, _, n + 1, ⟨v, r, e, q, t⟩ => by rw [e]; simpa using DvL.drop n t
theorem DvL.take : ∀ {ds : List D} {vs : List V} (n : Nat), DvL H vs ds → DvL H (vs.take n) (ds.take n)
  | ds, vs, 0, q => by simp; rfl
  | [], vs, n + 1, q => by rw [show vs = [] from q]; rfl
  | d :: ds, _, n + 1, ⟨v, r, e, q, t⟩ => by
    rw [e, List.take_succ_cons, List.take_succ_cons]
    exact ⟨v, _, rfl, q, DvL.take n t⟩
end
/- comprehensions over a range -/
theorem c_range {lo : Int} {n : Nat} {g : TG} {tt : TT} {te : TE} {vs : List Nat} {σ : L2.St} {H1 : Hp} {D : Addr} {Qd : Hp → Prop} (Pv : Nat → Hp → Prop) (h0 : Pv 0 (upd H1 D (.lst [])))
    (hs : ∀ i H, i < n → Pv i H → g (.int (lo + i)) (wipe σ vs) H fun σ2 H2 => wipe σ2 vs = wipe σ vs ∧ tt σ2 H2 fun b H3 =>
      if b = true then te σ2 H3 fun y H4 => ∃ acc, H4 D = some (.lst acc) ∧ acc.length < sizeLine ∧ Pv (i + 1) (upd H4 D (.lst (acc ++ [y]))) else Pv (i + 1) H3) (hd : ∀ H, Pv n H → Qd H) :
    ∃ W : Nat → Nat → Hp → Prop, (∃ m, W 0 m (upd H1 D (.lst []))) ∧ ∀ i m H, W i m H →
      ((Itr lo n).stop i H ∧ Qd H) ∨ ((Itr lo n).go i H ∧ ∃ Nx : Hp → Prop, (∀ H', Nx H' → ∃ m', m' < m ∧ W (i + 1) m' H') ∧ ∀ x H', (Itr lo n).yld i H x H' → g x (wipe σ vs) H' fun σ2 H2 => wipe σ2 vs = wipe σ vs ∧ tt σ2 H2 fun b H3 =>
        if b = true then te σ2 H3 fun y H4 => ∃ acc, H4 D = some (.lst acc) ∧ acc.length < sizeLine ∧ Nx (upd H4 D (.lst (acc ++ [y]))) else Nx H3) := lc_range Pv h0 hs hd
end Gx
namespace Gx
open PySem L2 PySem.Spec PyProof.Rows
theorem k_isX {X : Cx} {a : Addr} {cls : Value} {d : Option Addr} {oe : Obj} {pn : List (Addr × Obj)} (K : PySem.W.Frag) (hz : Zc cls d oe) (hf : ∃ vs, oe.data = .fields vs) (hK : X.K = K := by rfl) : CallR (X.suite a ((a, oe) :: pn)) (.builtin "isinstance") (rIsXG K a cls d) := by
  subst hK; exact call_isX hz hf
end Gx
namespace Gx
open PySem L2 PySem.Spec PyProof.Rows
theorem and_eqw {l l' : L2.St} {R : Prop} (h : l = l') (k : R) : l = l' ∧ R := ⟨h, k⟩
section
variable {H : Hp} {Q : VK} {K : PySem.W.Frag} {p : Addr} {xs : List V}
end
theorem c_list {K : PySem.W.Frag} {a : Addr} {xs : List V} {g : TG} {tt : TT} {te : TE} {vs : List Nat} {σ : L2.St} {H1 : Hp} {D : Addr} {Qd : Hp → Prop} (Pv : Nat → Hp → Prop) (h0 : Pv 0 (upd H1 D (.lst []))) (hl : ∀ i H, i ≤ xs.length → Pv i H → SqL K H a xs)
    (hs : ∀ i x H, xs[i]? = some x → Pv i H → g x (wipe σ vs) H fun σ2 H2 => wipe σ2 vs = wipe σ vs ∧ tt σ2 H2 fun b H3 =>
      if b = true then te σ2 H3 fun y H4 => ∃ acc, H4 D = some (.lst acc) ∧ acc.length < sizeLine ∧ Pv (i + 1) (upd H4 D (.lst (acc ++ [y]))) else Pv (i + 1) H3) (hd : ∀ H, Pv xs.length H → Qd H) :
    ∃ W : Nat → Nat → Hp → Prop, (∃ m, W 0 m (upd H1 D (.lst []))) ∧ ∀ i m H, W i m H →
      ((Itl K a).stop i H ∧ Qd H) ∨ ((Itl K a).go i H ∧ ∃ Nx : Hp → Prop, (∀ H', Nx H' → ∃ m', m' < m ∧ W (i + 1) m' H') ∧ ∀ x H', (Itl K a).yld i H x H' → g x (wipe σ vs) H' fun σ2 H2 => wipe σ2 vs = wipe σ vs ∧ tt σ2 H2 fun b H3 =>
        if b = true then te σ2 H3 fun y H4 => ∃ acc, H4 D = some (.lst acc) ∧ acc.length < sizeLine ∧ Nx (upd H4 D (.lst (acc ++ [y]))) else Nx H3) := lc_list Pv h0 hl hs hd
theorem and_tyL {K : PySem.W.Frag} {H : Hp} {p : Addr} {xs : List V} {R : Prop} (h : H p = some (.lst xs)) (k : R) : tyV K "list" (.ref p) H ∧ R := ⟨.inl ⟨rfl, xs, SqL.of h⟩, k⟩
end Gx

set_option Elab.async false
set_option linter.all false
set_option maxRecDepth 100000
set_option maxHeartbeats 4000000
/-! The head of a law: each fact that the texts lean on is a test of the written part, all of them run once by the kernel. -/
namespace Gx
open PySem PySem.Spec PyProof.Rows L2 He
abbrev Ck : Type := PySem.W.Frag → Bool
/-- a def: how its address is found, its names, parameters, body, scope, defaults -/
structure DefE where
  adr : PySem.W.Frag → Addr
  nm : Str
  qual : Str
  args : Arguments
  stmts : List Stmt
  sc : Scope
  dfl : List He.Dv
/-- the getter of a property -/
def prAd (K : PySem.W.Frag) (C m : Str) : Addr := match PySem.W.recIn K (ma K (ga K C) m) "property" with
  | some (.ref g :: _) => g
  | _ => 0
def seenAt (K : PySem.W.Frag) (f : Addr) : FnW := match K.lookup f with
  | some ⟨_, _, .func z, _⟩ => some (z.name, z.qualname, z.params, z.body, z.scope, z.globals, z.closure, z.builtins)
  | _ => none
def DefE.due (d : DefE) : FnW := some (d.nm, d.qual, d.args, .stmts d.stmts, d.sc, mainGlobals, [], builtinsNs)
def DefE.dv (K : PySem.W.Frag) (d : DefE) : List V := d.dfl.map (He.Dv.v K)
def DefE.fits (K : PySem.W.Frag) (d : DefE) : Bool := PySem.W.keepIn K (.ref (d.adr K)) && (match K.lookup (d.adr K) with
  | some ⟨_, _, .func z, _⟩ => PySem.W.codeIn K z.code d.qual && dflB K z.defaults (d.dv K)
  | _ => false)
theorem DefE.says {K : PySem.W.Frag} {d : DefE} (e : seenAt K (d.adr K) = d.due) (c : d.fits K = true) : ∃ fd, FunD K d.nm d.qual d.args d.stmts d.sc (d.dv K) [] (d.adr K) fd := by
  obtain ⟨kp, c2⟩ := ba c
  unfold seenAt at e
  cases q : K.lookup (d.adr K) with
  | none => rw [q] at c2; cases c2
  | some o =>
    obtain ⟨oc, od, dt, osl⟩ := o
    rw [q] at c2 e
    cases dt with
    | func z =>
      obtain ⟨z1, z2, z3, z4, z5, z6, z7, z8, z9, z10, z11, z12, z13, z14, z15⟩ := z
      have e2 : (some (z1, z2, z3, z4, z5, z6, z7, z15) : FnW) = some (d.nm, d.qual, d.args, .stmts d.stmts, d.sc, mainGlobals, [], builtinsNs) := e
      simp only [Option.some.injEq, Prod.mk.injEq] at e2
      obtain ⟨y1, y2, y3, y4, y5, y6, y7, y8⟩ := e2
      subst y1 y2 y3 y4 y5 y6 y7 y8
      obtain ⟨k1, k3⟩ := ba (show (PySem.W.codeIn K z13 d.qual && dflB K z8 (d.dv K)) = true from c2)
      exact ⟨_, ⟨oc, od, z8, z9, z10, z11, z12, z13, z14, osl, rfl, q, k1, dflB_ok k3, .inl rfl⟩, kp⟩
    | _ => cases c2
abbrev AlB : Type := Bool × List FnW
def obsB (ch : List Ck) (fn : List DefE) (K : PySem.W.Frag) : AlB := ((ch.all fun f => f K) && fn.all fun d => d.fits K, fn.map fun d => seenAt K (d.adr K))
def valB (fn : List DefE) : AlB := (true, fn.map DefE.due)
def SaysB (ch : List Ck) (fn : List DefE) (K : PySem.W.Frag) : Prop := obsB ch fn K = valB fn
def obsBG (n : Nat) (ch : List Ck) (fn : List DefE) (g : Addr → Option Obj) : AlB := obsB ch fn (frG g (asD g n))
def hookB (n : Nat) (ch : List Ck) (fn : List DefE) : PySem.W.Hook where
  α := AlB
  obs := fun s => obsBG n ch fn s.heap.get?
  val := fun _ => valB fn
  says := fun _ h => ∃ K : PySem.W.Frag, K.In h ∧ SaysB ch fn K
  of := fun _ _ e => ⟨_, frG_in, e⟩
  keeps := fun _ _ _ ⟨K, hK, c⟩ k => ⟨K, PySem.W.Frag.In.keeps hK k, c⟩
theorem obsBG_eq {n : Nat} {ch : List Ck} {fn : List DefE} {g : Addr → Option Obj} {s : Shared} (h : ∀ a, g a = s.heap.get? a) : obsBG n ch fn g = (hookB n ch fn).obs s := by
  have e : g = s.heap.get? := funext h
  rw [e] <;> rfl
section
variable {ch : List Ck} {fn : List DefE} {K : PySem.W.Frag}
theorem SaysB.ck (c : SaysB ch fn K) (i : Nat) {f : Ck} (h : ch[i]? = some f := by rfl) : f K = true := by
  have c1 := (ba (show ((ch.all fun f => f K) && fn.all fun d => d.fits K) = true from congrArg (fun z : AlB => z.1) c)).1
  exact List.all_eq_true.mp c1 f (List.mem_of_getElem? h)
theorem SaysB.def_ (c : SaysB ch fn K) (i : Nat) {d : DefE} (h : fn[i]? = some d := by rfl) : ∃ fd, FunD K d.nm d.qual d.args d.stmts d.sc (d.dv K) [] (d.adr K) fd := by
  have c2 := (ba (show ((ch.all fun f => f K) && fn.all fun d => d.fits K) = true from congrArg (fun z : AlB => z.1) c)).2
  have e : (fn.map fun d => seenAt K (d.adr K)) = fn.map DefE.due := congrArg (fun z : AlB => z.2) c
  have e2 : (fn.map fun d => seenAt K (d.adr K))[i]? = (fn.map DefE.due)[i]? := by rw [e]
  rw [List.getElem?_map, List.getElem?_map, h] at e2
  exact DefE.says (Option.some.inj e2) (List.all_eq_true.mp c2 d (List.mem_of_getElem? h))
end
/-! ### facts -/
variable {K : PySem.W.Frag} {h : Heap} {mg : Str → Option Value}
def eqB {α : Type} [DecidableEq α] (a b : α) : Bool := decide (a = b)
def cFa (f : Fa) : Ck := fun K => f.ok K
def cTy (x : Str) : Ck := fun K => decide (PySem.W.typeIn K (.ref (ga K x)) = some (.type "type"))
def cKv (x : Str) : Ck := fun K => decide (PySem.W.kitOne K (.ref (ga K x)) (.type "ValueError") = some true)
def cKit (x y : Str) (b : Bool) : Ck := fun K => decide (PySem.W.kitOne K (.ref (ga K x)) (.ref (ga K y)) = some b)
def cExc (x : Str) : Ck := fun K => PySem.W.excIn K (ga K x) veBase "ValueError.__new__"
def cInit (x : Str) : Ck := fun K => eqO (PySem.W.findIn K (.ref (ga K x)) "__init__") (some (some (.ref (ma K (ga K x) "__init__")))) && decide (PySem.W.typeIn K (.ref (ma K (ga K x) "__init__")) = some (.type "function"))
def exCB (K : PySem.W.Frag) (D : Addr) : Bool :=
  eqO (PySem.W.findIn K (.ref D) "__getattribute__") (some (some (.builtin "BaseException.__getattribute__"))) && (eqO (PySem.W.findIn K (.ref D) "__getattr__") (some none) &&
  (decide (PySem.W.subIn K (.ref D) (.type "BaseException") = some true) && (PySem.W.hasDictIn K D && (eqO (PySem.W.findIn K (.ref D) "__class__") (some (some (.builtin "object.__class__"))) &&
  (eqO (PySem.W.specialIn K (.builtin "object.__class__") "__get__") (some (some (.builtin "getset_descriptor.__get__"))) && (decide (PySem.W.takesIn K (.builtin "object.__class__") = some true) && decide (PySem.W.mroIn K D (.type "object") = some true)))))))
theorem exCB_ok {D : Addr} (c : exCB K D = true) : ExC K D := by
  obtain ⟨c1, c⟩ := ba c
  obtain ⟨c2, c⟩ := ba c
  obtain ⟨c3, c⟩ := ba c
  obtain ⟨c4, c⟩ := ba c
  obtain ⟨c5, c⟩ := ba c
  obtain ⟨c6, c⟩ := ba c
  obtain ⟨c7, c8⟩ := ba c
  exact ⟨eqO_ok c1, eqO_ok c2, of_decide_eq_true c3, c4, eqO_ok c5, eqO_ok c6, of_decide_eq_true c7, of_decide_eq_true c8⟩
def cExC (x : Str) : Ck := fun K => exCB K (ga K x)
def slB : List (Option Value) → Bool
  | [_, _, _, _, some (.builtin n), _] => decide (n = "ValueError.__new__")
  | _ => false
def mroB (C : Addr) : List Value → Bool
  | .ref C' :: bm => decide (C' = C) && PySem.HandSPX.refsVE bm
  | _ => false
def oexB (K : PySem.W.Frag) (C : Addr) : Bool := (match K.lookup C with
  | some ⟨.type t, _, .cls cd, sl⟩ => decide (t = "type") && (mroB C cd.mro && (cd.hasDict && (!cd.hasDel && slB sl.toList)))
  | _ => false) && (eqO (PySem.W.findIn K (.ref C) "__setattr__") (some (some (.builtin "object.__setattr__"))) &&
  (decide (PySem.W.subIn K (.ref C) (.type "BaseException") = some true) && (decide (PySem.W.typeIn K (.ref C) = some (.type "type")) && PySem.W.keepIn K (.ref C))))
theorem oexB_ok {C : Addr} (c : oexB K C = true) : OexC K C := by
  obtain ⟨c1, c⟩ := ba c
  obtain ⟨c2, c⟩ := ba c
  obtain ⟨c3, c⟩ := ba c
  obtain ⟨c4, c5⟩ := ba c
  refine ⟨?_, eqO_ok c2, of_decide_eq_true c3, of_decide_eq_true c4, c5⟩
  cases q : K.lookup C with
  | none => rw [q] at c1; cases c1
  | some o =>
    obtain ⟨oc, od, dt, sl⟩ := o
    rw [q] at c1
    cases oc with
    | type t =>
      cases dt with
      | cls cd =>
        obtain ⟨d1, d⟩ := ba (show (decide (t = "type") && (mroB C cd.mro && (cd.hasDict && (!cd.hasDel && slB sl.toList)))) = true from c1)
        obtain ⟨d2, d⟩ := ba d
        obtain ⟨d3, d⟩ := ba d
        obtain ⟨d4, d5⟩ := ba d
        have e1 := of_decide_eq_true d1
        subst e1
        obtain ⟨l⟩ := sl
        have d5' : slB l = true := d5
        clear c1
        obtain ⟨nm, bs, mro, ns, qn, hd, sn, sub, ab, col, del⟩ := cd
        have d3' : hd = true := d3
        subst d3'
        have d4' : del = false := by
          cases del
          · rfl
          · cases d4
        subst d4'
        have d2' : mroB C mro = true := d2
        match mro, d2' with
        | .ref C' :: bm, d2' =>
          obtain ⟨f1, f2⟩ := ba (show (decide (C' = C) && PySem.HandSPX.refsVE bm) = true from d2')
          have e2 := of_decide_eq_true f1
          subst e2
          match l, d5' with
          | [k0, k1, k2, k3, some (.builtin n), k5], d5' =>
            have e3 : n = "ValueError.__new__" := of_decide_eq_true d5'
            subst e3
            exact ⟨_, _, _, _, _, _, _, _, _, _, _, _, _, _, _, rfl, f2⟩
      | _ => cases c1
    | _ => cases c1
def cOex (x : Str) : Ck := fun K => oexB K (ga K x)
theorem funD_fun {x qual : Str} {st : Stmt} {f : Addr} {fd : FuncData} (F : FunD K x qual (defArgs st) (defBody st) (defScope st) [] [] f fd) : Fun K x qual st f fd := by
  obtain ⟨oc, od, dV, kV, doc, pm, an, cdv, ct, osl, rfl, lk, hcd, hD, _⟩ := F.ex
  rcases hD with ⟨_, rfl⟩ | ⟨e, _⟩
  · exact ⟨⟨oc, od, kV, doc, pm, an, cdv, ct, osl, rfl, lk, hcd⟩, F.kp⟩
  · exact absurd rfl e
theorem ini_ok {x : Str} (c : cInit x K = true) : PySem.W.findIn K (.ref (ga K x)) "__init__" = some (some (.ref (ma K (ga K x) "__init__"))) ∧ PySem.W.typeIn K (.ref (ma K (ga K x) "__init__")) = some (.type "function") := by
  obtain ⟨c1, c2⟩ := ba c
  exact ⟨eqO_ok c1, of_decide_eq_true c2⟩
/-! ### calls by keywords, no defaults -/
theorem vals_getD : ∀ {vs : List V} {us : List Value} (i : Nat), Vals vs us → RelV (vs.getD i .non) (us.getD i .none)
  | [], [], _, _ => rfl
  | _ :: _, _ :: _, 0, .cons r _ => r
  | _ :: _, _ :: _, i + 1, .cons _ r => vals_getD i r
theorem kbN {x qual : Str} {st : Stmt} {f : Addr} {fd : FuncData} {ps ks : List Str} {n : Nat} {g : List Value → List Value → List Value} {gV : List V → List V → List V} (F : Fun K x qual st f fd)
    (hrel : ∀ {vs : List V} {us : List Value} {zs : List V} {ws : List Value}, Vals vs us → Vals zs ws → Vals (gV vs zs) (g us ws))
    (h : ∀ (kV doc pm : Value) (an : Option Addr) (cdv ct : Value) (us ws : List Value), us.length = n → ws.length = ks.length → bindArgs (PySem.W.fnOf x qual (defArgs st) (defBody st) (defScope st) .none kV doc pm an cdv ct) ⟨us, ks.zip ws⟩ = pure (ps.zip (g us ws))) : KBn K fd ps n ks g gV := by
  obtain ⟨oc, od, kV, doc, pm, an, cdv, ct, osl, rfl, lk, hcd⟩ := F.ex
  exact ⟨fun s us ws X l1 l2 => .of_eq (h kV doc pm an cdv ct us ws l1 l2), hrel⟩
section
variable {X : Cx} {CX : CXT} {k n : Nat} {f : Addr} {fd : FuncData} {ps ks : List Str} {sp : Sp} {E : XK} {x : Str} {p pos : Pos} {kws : List Keyword} {tk : TA} {g : List Value → List Value → List Value} {gV : List V → List V → List V}
theorem pe_callN0 (F : FnOk X.prog X.w X.K X.mg X.base CX k f fd ps sp) (hr : Room k X.A) (hg : Gl X x) (hm : X.mg x = some (.ref f)) (hk : PySem.W.keepIn X.K (.ref f) = true) (hb : KBn X.K fd ps 0 ks g gV) (hx : Passes CX X E) (hkw : PK X kws tk)
    (hall : (backToKw pos (keywordEach kws X.env)).all (·.1.isSome) = true := by rfl) (hks : (backToKw pos (keywordEach kws X.env)).filterMap (·.1) = ks := by rfl) (hdb : (x == ("__debug__" : Str)) = false := by decide)
    (hpl : ((backTo pos (starEach [] X.env)).any (·.1) || (backToKw pos (keywordEach kws X.env)).any (·.1.isNone)) = false := by rfl) :
    PE X (.Call (.Name x p) [] kws pos) (tCallN 0 ks.length sp gV E tNil tk) := by
  refine ⟨fun pins s σ H Q I h => ?_⟩
  refine wpAny_Call_Name_kw (ld_glob I hg hm ?_ hdb)
  refine PySem.W.callWith_KW0 (h₀ := X.base) I.ok.mod.kin hk hall ?_ hpl
  refine thn (hkw.run pos pins s σ H _ I h) fun ws s2 ⟨zs, H2, I2, rz, l1, l2, q2⟩ => ⟨I2.kIn, ?_⟩
  rw [hks]
  exact run_fnN (us := []) (vs := []) F hr hb hx I2 .nil rz rfl l2 q2
end
/-! ### what holds no list stands without the store -/
mutual
def noL : D → Bool
  | .lst _ => false
  | .tup ds => noLs ds
  | .dic _ => false
  | _ => true
def noLs : List D → Bool
  | [] => true
  | d :: ds => noL d && noLs ds
end
theorem Sto.at {p c : Addr} {H : Hp} (s : Sto H p c) : ∃ l, H p = some (.lst l) := by
  obtain ⟨_, _, _, _, _, h, _⟩ := s
  exact ⟨_, h⟩
/-! ### dicts whose keys are texts or ints: len, sorted -/
def rLenD : List V → Hp → VK → Prop := fun xs H Q => ∃ a kvs, xs = [V.ref a] ∧ H a = some (.dK kvs) ∧ Q (.int (kvs.length : Nat)) H
def rSortedD : List V → Hp → VK → Prop := fun xs H Q => ∃ (a : Addr) (kvs : List (Key × V)) (ks : List Str), xs = [.ref a] ∧ Rd H a (.dK kvs) ∧ kvs.map (·.1) = ks.map Sum.inr ∧ ks.length < 64 ∧
    ∀ ys p, ys.Perm ks → sortedS ys = true → H p = none → Q (.ref p) (upd H p (.lst (ys.map V.str)))
/-! ### own classes -/
theorem e_fld {K : PySem.W.Frag} {σ : L2.St} {H : Hp} {Q : VK} {ta : TE} {f : Str} (k : ta σ H fun x H1 => ∃ a C dx fs v, x = .ref a ∧ H1 a = some (.ins C dx fs) ∧ Cls K C ∧ NoAttr K C f ∧ fs.lookup f = some v ∧ Q v H1) : tFld K ta f σ H Q := k
theorem r_fld {K : PySem.W.Frag} {H : Hp} {R : V → Prop} {f : Str} {a C dx : Addr} {fs : List (Str × V)} {v : V} (h : H a = some (.ins C dx fs)) (c : Cls K C) (n : NoAttr K C f) (l : fs.lookup f = some v) (k : R v) :
    ∃ a' C dx fs v, V.ref a = .ref a' ∧ H a' = some (.ins C dx fs) ∧ Cls K C ∧ NoAttr K C f ∧ fs.lookup f = some v ∧ R v := ⟨a, C, dx, fs, v, rfl, h, c, n, l, k⟩
theorem s_fld {K : PySem.W.Frag} {D : Ends} {σ : L2.St} {H : Hp} {ta tv : TE} {f : Str} (k : tv σ H fun y H1 => ta σ H1 fun x H2 => ∃ a C dx fs, x = .ref a ∧ H2 a = some (.ins C dx fs) ∧ Cls K C ∧ NoAttr K C f ∧ fs.length < 1000 ∧ D.nx σ (upd H2 a (.ins C dx (putF f y fs)))) : sFld K ta tv f D σ H := k
theorem r_sfld {K : PySem.W.Frag} {H : Hp} {R : Hp → Prop} {f : Str} {y : V} {a C dx : Addr} {fs : List (Str × V)} (h : H a = some (.ins C dx fs)) (c : Cls K C) (n : NoAttr K C f) (l : fs.length < 1000) (k : R (upd H a (.ins C dx (putF f y fs)))) :
    ∃ a' C dx fs, V.ref a = .ref a' ∧ H a' = some (.ins C dx fs) ∧ Cls K C ∧ NoAttr K C f ∧ fs.length < 1000 ∧ R (upd H a' (.ins C dx (putF f y fs))) := ⟨a, C, dx, fs, rfl, h, c, n, l, k⟩
/-- what isinstance asks of an own class; no list, no tuple, no number, no text, no dict -/
structure InsK (K : PySem.W.Frag) (C : Addr) : Prop where
  cl : Cls K C
  ha : PySem.W.findIn K (.ref C) "__class__" = some (some (.builtin "object.__class__"))
  hn : PySem.W.specialIn K (.builtin "object.__class__") "__get__" = some (some (.builtin "getset_descriptor.__get__"))
  tk : PySem.W.takesIn K (.builtin "object.__class__") = some true
  mo : PySem.W.mroIn K C (.type "object") = some true
  seq : PySem.W.kitAny K (.ref C) [.type "list", .type "tuple"] = some false
  self : PySem.W.kitOne K (.ref C) (.ref C) = some true
  no : ∀ n ∈ ["int", "bool", "str", "dict", "list", "tuple"], PySem.W.kitOne K (.ref C) (.type n) = some false
def cIns (x : Str) : Ck := fun K => Fa.ok K (.cls x) && (eqO (PySem.W.findIn K (.ref (ga K x)) "__class__") (some (some (.builtin "object.__class__"))) &&
  (eqO (PySem.W.specialIn K (.builtin "object.__class__") "__get__") (some (some (.builtin "getset_descriptor.__get__"))) && (decide (PySem.W.takesIn K (.builtin "object.__class__") = some true) &&
  (decide (PySem.W.mroIn K (ga K x) (.type "object") = some true) && (decide (PySem.W.kitAny K (.ref (ga K x)) [.type "list", .type "tuple"] = some false) && (decide (PySem.W.kitOne K (.ref (ga K x)) (.ref (ga K x)) = some true) &&
  (["int", "bool", "str", "dict", "list", "tuple"] : List String).all fun n => decide (PySem.W.kitOne K (.ref (ga K x)) (.type n) = some false)))))))
theorem insK_ok {x : Str} (c : cIns x K = true) : InsK K (ga K x) := by
  obtain ⟨c1, c⟩ := ba c
  obtain ⟨c2, c⟩ := ba c
  obtain ⟨c3, c⟩ := ba c
  obtain ⟨c4, c⟩ := ba c
  obtain ⟨c5, c⟩ := ba c
  obtain ⟨c6, c⟩ := ba c
  obtain ⟨c7, c8⟩ := ba c
  exact ⟨cls_ok c1, eqO_ok c2, eqO_ok c3, of_decide_eq_true c4, of_decide_eq_true c5, of_decide_eq_true c6, of_decide_eq_true c7, fun n hn => of_decide_eq_true (List.all_eq_true.mp c8 n hn)⟩
theorem InsK.ty {C a dx : Addr} {fs : List (Str × V)} {H : Hp} (c : InsK K C) (h : H a = some (.ins C dx fs)) : TyX K H (.ref a) (.ref C) := .base (.ins h c.cl c.ha c.hn c.tk c.mo)
/-- the default () of a def -/
def dtB (f : Str × Option Str) (i : Nat) : Ck := fun K => match K.lookup (dflAt f i K) with
  | some ⟨.type c, _, .seq its _, _⟩ => decide (c = "tuple") && its.toList.isEmpty
  | _ => false
structure Emp (K : PySem.W.Frag) (e : Addr) : Prop where
  sq : ∀ H, SqT K H e []
  ty : ∀ H, TyX K H (.ref e) (.type "tuple")
theorem dtB_ok {f : Str × Option Str} {i : Nat} (h : dtB f i K = true) : Emp K (dflAt f i K) := by
  unfold dtB at h
  cases q : K.lookup (dflAt f i K) with
  | none =>
    rw [q] at h
    cases h
  | some o =>
    obtain ⟨oc, od, dt, osl⟩ := o
    rw [q] at h
    cases oc with
    | type c =>
      cases dt with
      | seq its n =>
        obtain ⟨h1, h2⟩ := ba (show (decide (c = "tuple") && its.toList.isEmpty) = true from h)
        have e1 := of_decide_eq_true h1
        subst e1
        obtain ⟨l⟩ := its
        have e2 : l = [] := List.isEmpty_iff.mp h2
        subst e2
        exact ⟨fun H => .inr ⟨_, _, n, q, rfl, rfl, by show 0 ≤ sizeLine; exact Nat.zero_le _, .nil⟩, fun H => .kTuple q rfl⟩
      | _ => cases h
    | _ => cases dt <;> cases h
def rRevL (K : PySem.W.Frag) (x : V) (H : Hp) (Q : VK) : Prop := ∃ a xs, x = .ref a ∧ SqL K H a xs ∧ ∀ p, H p = none → Q (.ref p) (upd H p (.lst xs.reverse))
/-! ### properties -/
def cProp (C m : Str) : Ck := fun K => eqO (PySem.W.findIn K (.ref (ga K C)) m) (some (some (.ref (ma K (ga K C) m)))) && (eqO (PySem.W.specialIn K (.ref (ma K (ga K C) m)) "__get__") (some (some (.builtin "property.__get__"))) &&
  (decide (PySem.W.takesIn K (.ref (ma K (ga K C) m)) = some true) && (match PySem.W.recIn K (ma K (ga K C) m) "property" with
  | some (.ref _ :: _) => true
  | _ => false)))
theorem prop_ok {C m : Str} (c : cProp C m K = true) : PropOf K (ga K C) m (ma K (ga K C) m) (prAd K C m) := by
  obtain ⟨c1, c⟩ := ba c
  obtain ⟨c2, c⟩ := ba c
  obtain ⟨c3, c4⟩ := ba c
  refine ⟨eqO_ok c1, eqO_ok c2, of_decide_eq_true c3, ?_⟩
  unfold prAd
  cases q : PySem.W.recIn K (ma K (ga K C) m) "property" with
  | none => rw [q] at c4; cases c4
  | some l =>
    rw [q] at c4
    match l, c4 with
    | .ref g :: rest, _ => exact ⟨rest, rfl⟩
/-! ### making an instance inside a try: what __init__ lets out is the block's -/
def tMakeS (C : Addr) (sp : Sp) (dvs : List V) (E : L2.St → XK) (t : TA) : TE := fun σ H Q => t σ H fun vs G => ∀ x dx, G x = none → G dx = none → dx ≠ x →
  sp (.ref x :: (vs ++ dvs)) (upd (upd G dx (.own x)) x (.ins C dx [])) (fun v H2 => v = .non ∧ Q (.ref x) H2) (E σ)
section
variable {X : Cx} {CX : CXT} {k : Nat} {f C : Addr} {fd : FuncData} {ps : List Str} {sp : Sp} {E : L2.St → XK} {x : Str} {p pos : Pos} {e : Expr} {es : List Expr} {t : TA} {dvs : List V} {ds : List Value}
end
end Gx
namespace Pl
open PySem L2 Gx PySem.Spec PyProof.Rows
def cNoK (x : Str) : Ck := fun K => (["NoneType", "bool", "int", "str", "list", "tuple", "dict"] : List String).all fun n => decide (PySem.W.kitOne K (.type n) (.ref (He.ga K x)) = some false)
end Pl
namespace Lk
open PySem L2 Gx Pl PyProof.Rows
def top (i : Nat) : Stmt := PySem.Challenge.pw_huewalks_k38_order_of_web.main.body.getD i (.Pass ⟨0, 0, 0, 0⟩)
abbrev s_BadWeb__init__ : Stmt := inClass (top 3) 0
abbrev s_BadOrder__init__ : Stmt := inClass (top 4) 0
abbrev s_TooMany__init__ : Stmt := inClass (top 6) 0
abbrev s_is_whole : Stmt := top 8
abbrev s_is_sequence : Stmt := top 9
abbrev s_is_between : Stmt := top 10
abbrev s_check_number : Stmt := top 11
abbrev s_reach_of : Stmt := top 20
abbrev s_is_rising_pair : Stmt := top 19
abbrev s_Order__init__ : Stmt := inClass (top 14) 0
abbrev s_Order__len__ : Stmt := inClass (top 14) 3
abbrev s_Order__eq__ : Stmt := inClass (top 14) 4
abbrev s_Order__ne__ : Stmt := inClass (top 14) 5
abbrev s_Order_size : Stmt := inClass (top 14) 1
abbrev s_things_in : Stmt := top 18
abbrev s_next_above : Stmt := top 21
abbrev s_Order_covers : Stmt := inClass (top 14) 2
abbrev s_check_thing : Stmt := top 16
abbrev s_Order_at_or_below : Stmt := inClass (top 14) 9
abbrev s_check_order : Stmt := top 15
abbrev s_is_place_pair : Stmt := top 27
abbrev s_Web__init__ : Stmt := inClass (top 26) 0
abbrev s_Web__len__ : Stmt := inClass (top 26) 3
abbrev s_Web__contains__ : Stmt := inClass (top 26) 5
abbrev s_Web_places : Stmt := inClass (top 26) 1
abbrev s_Web_arrows : Stmt := inClass (top 26) 2
abbrev s_joins : Stmt := top 29
abbrev s_rule_arrows : Stmt := top 33
abbrev s_order_web : Stmt := top 30
abbrev s_read_order : Stmt := top 34
abbrev s_is_order_web : Stmt := top 31
abbrev s_order_of_web : Stmt := top 32
abbrev s_law_mix : Stmt := top 36
abbrev s_law_store : Stmt := top 37
abbrev s_law_take : Stmt := top 38
abbrev s_law_between : Stmt := top 39
abbrev s_law_edge : Stmt := top 40
abbrev s_law_pick : Stmt := top 41
abbrev s_law_shuffled : Stmt := top 42
abbrev s_law_form : Stmt := top 43
abbrev s_law_odd : Stmt := top 44
abbrev s_law_far : Stmt := top 45
abbrev s_law_any : Stmt := top 46
abbrev s_law_named_arrows : Stmt := top 47
abbrev s_law_web : Stmt := top 48
abbrev s_law_pair_forms : Stmt := top 49
abbrev s_law_order : Stmt := top 50
abbrev s_law_below : Stmt := top 51
abbrev s_law_covers : Stmt := top 52
abbrev s_law_is_integer : Stmt := top 53
abbrev s_law_same : Stmt := top 54
abbrev s_law_order_arrows : Stmt := top 55
abbrev s_law_table_of : Stmt := top 56
abbrev s_law_toggled : Stmt := top 57
abbrev s_law_changed : Stmt := top 58
abbrev s_law_ask_web : Stmt := top 59
abbrev s_law_ask_order : Stmt := top 60
abbrev s_law_is_order : Stmt := top 61
abbrev s_law_is_web : Stmt := top 62
abbrev s_law_answers : Stmt := top 63
abbrev s_law_odd_refused : Stmt := top 64
abbrev s_law : Stmt := top 65
def dd_BadWeb__init__ : DefE := ⟨fun K => He.fAd K ("BadWeb", some "__init__"), "__init__", "BadWeb.__init__", defArgs s_BadWeb__init__, defBody s_BadWeb__init__, defScope s_BadWeb__init__, []⟩
def dd_BadOrder__init__ : DefE := ⟨fun K => He.fAd K ("BadOrder", some "__init__"), "__init__", "BadOrder.__init__", defArgs s_BadOrder__init__, defBody s_BadOrder__init__, defScope s_BadOrder__init__, []⟩
def dd_TooMany__init__ : DefE := ⟨fun K => He.fAd K ("TooMany", some "__init__"), "__init__", "TooMany.__init__", defArgs s_TooMany__init__, defBody s_TooMany__init__, defScope s_TooMany__init__, []⟩
def dd_is_whole : DefE := ⟨fun K => He.fAd K ("is_whole", none), "is_whole", "is_whole", defArgs s_is_whole, defBody s_is_whole, defScope s_is_whole, []⟩
def dd_is_sequence : DefE := ⟨fun K => He.fAd K ("is_sequence", none), "is_sequence", "is_sequence", defArgs s_is_sequence, defBody s_is_sequence, defScope s_is_sequence, []⟩
def dd_is_between : DefE := ⟨fun K => He.fAd K ("is_between", none), "is_between", "is_between", defArgs s_is_between, defBody s_is_between, defScope s_is_between, []⟩
def dd_check_number : DefE := ⟨fun K => He.fAd K ("check_number", none), "check_number", "check_number", defArgs s_check_number, defBody s_check_number, defScope s_check_number, []⟩
def dd_reach_of : DefE := ⟨fun K => He.fAd K ("_reach_of", none), "_reach_of", "_reach_of", defArgs s_reach_of, defBody s_reach_of, defScope s_reach_of, []⟩
def dd_is_rising_pair : DefE := ⟨fun K => He.fAd K ("_is_rising_pair", none), "_is_rising_pair", "_is_rising_pair", defArgs s_is_rising_pair, defBody s_is_rising_pair, defScope s_is_rising_pair, []⟩
def dd_Order__init__ : DefE := ⟨fun K => He.fAd K ("Order", some "__init__"), "__init__", "Order.__init__", defArgs s_Order__init__, defBody s_Order__init__, defScope s_Order__init__, [.adr (He.dflAt ("Order", some "__init__") 0)]⟩
def dd_Order__len__ : DefE := ⟨fun K => He.fAd K ("Order", some "__len__"), "__len__", "Order.__len__", defArgs s_Order__len__, defBody s_Order__len__, defScope s_Order__len__, []⟩
def dd_Order__eq__ : DefE := ⟨fun K => He.fAd K ("Order", some "__eq__"), "__eq__", "Order.__eq__", defArgs s_Order__eq__, defBody s_Order__eq__, defScope s_Order__eq__, []⟩
def dd_Order__ne__ : DefE := ⟨fun K => He.fAd K ("Order", some "__ne__"), "__ne__", "Order.__ne__", defArgs s_Order__ne__, defBody s_Order__ne__, defScope s_Order__ne__, []⟩
def dd_Order_size : DefE := ⟨fun K => prAd K "Order" "size", "size", "Order.size", defArgs s_Order_size, defBody s_Order_size, defScope s_Order_size, []⟩
def dd_things_in : DefE := ⟨fun K => He.fAd K ("things_in", none), "things_in", "things_in", defArgs s_things_in, defBody s_things_in, defScope s_things_in, []⟩
def dd_next_above : DefE := ⟨fun K => He.fAd K ("_next_above", none), "_next_above", "_next_above", defArgs s_next_above, defBody s_next_above, defScope s_next_above, []⟩
def dd_Order_covers : DefE := ⟨fun K => prAd K "Order" "covers", "covers", "Order.covers", defArgs s_Order_covers, defBody s_Order_covers, defScope s_Order_covers, []⟩
def dd_check_thing : DefE := ⟨fun K => He.fAd K ("check_thing", none), "check_thing", "check_thing", defArgs s_check_thing, defBody s_check_thing, defScope s_check_thing, []⟩
def dd_Order_at_or_below : DefE := ⟨fun K => He.fAd K ("Order", some "at_or_below"), "at_or_below", "Order.at_or_below", defArgs s_Order_at_or_below, defBody s_Order_at_or_below, defScope s_Order_at_or_below, []⟩
def dd_check_order : DefE := ⟨fun K => He.fAd K ("check_order", none), "check_order", "check_order", defArgs s_check_order, defBody s_check_order, defScope s_check_order, []⟩
def dd_is_place_pair : DefE := ⟨fun K => He.fAd K ("_is_place_pair", none), "_is_place_pair", "_is_place_pair", defArgs s_is_place_pair, defBody s_is_place_pair, defScope s_is_place_pair, []⟩
def dd_Web__init__ : DefE := ⟨fun K => He.fAd K ("Web", some "__init__"), "__init__", "Web.__init__", defArgs s_Web__init__, defBody s_Web__init__, defScope s_Web__init__, [.adr (He.dflAt ("Web", some "__init__") 0)]⟩
def dd_Web__len__ : DefE := ⟨fun K => He.fAd K ("Web", some "__len__"), "__len__", "Web.__len__", defArgs s_Web__len__, defBody s_Web__len__, defScope s_Web__len__, []⟩
def dd_Web__contains__ : DefE := ⟨fun K => He.fAd K ("Web", some "__contains__"), "__contains__", "Web.__contains__", defArgs s_Web__contains__, defBody s_Web__contains__, defScope s_Web__contains__, []⟩
def dd_Web_places : DefE := ⟨fun K => prAd K "Web" "places", "places", "Web.places", defArgs s_Web_places, defBody s_Web_places, defScope s_Web_places, []⟩
def dd_Web_arrows : DefE := ⟨fun K => prAd K "Web" "arrows", "arrows", "Web.arrows", defArgs s_Web_arrows, defBody s_Web_arrows, defScope s_Web_arrows, []⟩
def dd_joins : DefE := ⟨fun K => He.fAd K ("joins", none), "joins", "joins", defArgs s_joins, defBody s_joins, defScope s_joins, []⟩
def dd_rule_arrows : DefE := ⟨fun K => He.fAd K ("_rule_arrows", none), "_rule_arrows", "_rule_arrows", defArgs s_rule_arrows, defBody s_rule_arrows, defScope s_rule_arrows, []⟩
def dd_order_web : DefE := ⟨fun K => He.fAd K ("order_web", none), "order_web", "order_web", defArgs s_order_web, defBody s_order_web, defScope s_order_web, []⟩
def dd_read_order : DefE := ⟨fun K => He.fAd K ("_read_order", none), "_read_order", "_read_order", defArgs s_read_order, defBody s_read_order, defScope s_read_order, []⟩
def dd_is_order_web : DefE := ⟨fun K => He.fAd K ("is_order_web", none), "is_order_web", "is_order_web", defArgs s_is_order_web, defBody s_is_order_web, defScope s_is_order_web, []⟩
def dd_order_of_web : DefE := ⟨fun K => He.fAd K ("order_of_web", none), "order_of_web", "order_of_web", defArgs s_order_of_web, defBody s_order_of_web, defScope s_order_of_web, []⟩
def dd_law_mix : DefE := ⟨fun K => He.fAd K ("_law_mix", none), "_law_mix", "_law_mix", defArgs s_law_mix, defBody s_law_mix, defScope s_law_mix, []⟩
def dd_law_store : DefE := ⟨fun K => He.fAd K ("_law_store", none), "_law_store", "_law_store", defArgs s_law_store, defBody s_law_store, defScope s_law_store, []⟩
def dd_law_take : DefE := ⟨fun K => He.fAd K ("_law_take", none), "_law_take", "_law_take", defArgs s_law_take, defBody s_law_take, defScope s_law_take, []⟩
def dd_law_between : DefE := ⟨fun K => He.fAd K ("_law_between", none), "_law_between", "_law_between", defArgs s_law_between, defBody s_law_between, defScope s_law_between, []⟩
def dd_law_edge : DefE := ⟨fun K => He.fAd K ("_law_edge", none), "_law_edge", "_law_edge", defArgs s_law_edge, defBody s_law_edge, defScope s_law_edge, []⟩
def dd_law_pick : DefE := ⟨fun K => He.fAd K ("_law_pick", none), "_law_pick", "_law_pick", defArgs s_law_pick, defBody s_law_pick, defScope s_law_pick, []⟩
def dd_law_shuffled : DefE := ⟨fun K => He.fAd K ("_law_shuffled", none), "_law_shuffled", "_law_shuffled", defArgs s_law_shuffled, defBody s_law_shuffled, defScope s_law_shuffled, []⟩
def dd_law_form : DefE := ⟨fun K => He.fAd K ("_law_form", none), "_law_form", "_law_form", defArgs s_law_form, defBody s_law_form, defScope s_law_form, []⟩
def dd_law_odd : DefE := ⟨fun K => He.fAd K ("_law_odd", none), "_law_odd", "_law_odd", defArgs s_law_odd, defBody s_law_odd, defScope s_law_odd, []⟩
def dd_law_far : DefE := ⟨fun K => He.fAd K ("_law_far", none), "_law_far", "_law_far", defArgs s_law_far, defBody s_law_far, defScope s_law_far, []⟩
def dd_law_any : DefE := ⟨fun K => He.fAd K ("_law_any", none), "_law_any", "_law_any", defArgs s_law_any, defBody s_law_any, defScope s_law_any, []⟩
def dd_law_named_arrows : DefE := ⟨fun K => He.fAd K ("_law_named_arrows", none), "_law_named_arrows", "_law_named_arrows", defArgs s_law_named_arrows, defBody s_law_named_arrows, defScope s_law_named_arrows, []⟩
def dd_law_web : DefE := ⟨fun K => He.fAd K ("_law_web", none), "_law_web", "_law_web", defArgs s_law_web, defBody s_law_web, defScope s_law_web, []⟩
def dd_law_pair_forms : DefE := ⟨fun K => He.fAd K ("_law_pair_forms", none), "_law_pair_forms", "_law_pair_forms", defArgs s_law_pair_forms, defBody s_law_pair_forms, defScope s_law_pair_forms, []⟩
def dd_law_order : DefE := ⟨fun K => He.fAd K ("_law_order", none), "_law_order", "_law_order", defArgs s_law_order, defBody s_law_order, defScope s_law_order, []⟩
def dd_law_below : DefE := ⟨fun K => He.fAd K ("_law_below", none), "_law_below", "_law_below", defArgs s_law_below, defBody s_law_below, defScope s_law_below, []⟩
def dd_law_covers : DefE := ⟨fun K => He.fAd K ("_law_covers", none), "_law_covers", "_law_covers", defArgs s_law_covers, defBody s_law_covers, defScope s_law_covers, []⟩
def dd_law_is_integer : DefE := ⟨fun K => He.fAd K ("_law_is_integer", none), "_law_is_integer", "_law_is_integer", defArgs s_law_is_integer, defBody s_law_is_integer, defScope s_law_is_integer, []⟩
def dd_law_same : DefE := ⟨fun K => He.fAd K ("_law_same", none), "_law_same", "_law_same", defArgs s_law_same, defBody s_law_same, defScope s_law_same, []⟩
def dd_law_order_arrows : DefE := ⟨fun K => He.fAd K ("_law_order_arrows", none), "_law_order_arrows", "_law_order_arrows", defArgs s_law_order_arrows, defBody s_law_order_arrows, defScope s_law_order_arrows, []⟩
def dd_law_table_of : DefE := ⟨fun K => He.fAd K ("_law_table_of", none), "_law_table_of", "_law_table_of", defArgs s_law_table_of, defBody s_law_table_of, defScope s_law_table_of, []⟩
def dd_law_toggled : DefE := ⟨fun K => He.fAd K ("_law_toggled", none), "_law_toggled", "_law_toggled", defArgs s_law_toggled, defBody s_law_toggled, defScope s_law_toggled, []⟩
def dd_law_changed : DefE := ⟨fun K => He.fAd K ("_law_changed", none), "_law_changed", "_law_changed", defArgs s_law_changed, defBody s_law_changed, defScope s_law_changed, []⟩
def dd_law_ask_web : DefE := ⟨fun K => He.fAd K ("_law_ask_web", none), "_law_ask_web", "_law_ask_web", defArgs s_law_ask_web, defBody s_law_ask_web, defScope s_law_ask_web, []⟩
def dd_law_ask_order : DefE := ⟨fun K => He.fAd K ("_law_ask_order", none), "_law_ask_order", "_law_ask_order", defArgs s_law_ask_order, defBody s_law_ask_order, defScope s_law_ask_order, []⟩
def dd_law_is_order : DefE := ⟨fun K => He.fAd K ("_law_is_order", none), "_law_is_order", "_law_is_order", defArgs s_law_is_order, defBody s_law_is_order, defScope s_law_is_order, []⟩
def dd_law_is_web : DefE := ⟨fun K => He.fAd K ("_law_is_web", none), "_law_is_web", "_law_is_web", defArgs s_law_is_web, defBody s_law_is_web, defScope s_law_is_web, []⟩
def dd_law_answers : DefE := ⟨fun K => He.fAd K ("_law_answers", none), "_law_answers", "_law_answers", defArgs s_law_answers, defBody s_law_answers, defScope s_law_answers, []⟩
def dd_law_odd_refused : DefE := ⟨fun K => He.fAd K ("_law_odd_refused", none), "_law_odd_refused", "_law_odd_refused", defArgs s_law_odd_refused, defBody s_law_odd_refused, defScope s_law_odd_refused, []⟩
def dd_law : DefE := ⟨fun K => He.fAd K ("law", none), "law", "law", defArgs s_law, defBody s_law, defScope s_law, []⟩
def fns : List DefE := [dd_BadWeb__init__, dd_BadOrder__init__, dd_TooMany__init__, dd_is_whole, dd_is_sequence, dd_is_between, dd_check_number, dd_reach_of, dd_is_rising_pair, dd_Order__init__, dd_Order__len__, dd_Order__eq__, dd_Order__ne__, dd_Order_size, dd_things_in, dd_next_above, dd_Order_covers, dd_check_thing, dd_Order_at_or_below, dd_check_order, dd_is_place_pair, dd_Web__init__, dd_Web__len__, dd_Web__contains__, dd_Web_places, dd_Web_arrows, dd_joins, dd_rule_arrows, dd_order_web, dd_read_order, dd_is_order_web, dd_order_of_web, dd_law_mix, dd_law_store, dd_law_take, dd_law_between, dd_law_edge, dd_law_pick, dd_law_shuffled, dd_law_form, dd_law_odd, dd_law_far, dd_law_any, dd_law_named_arrows, dd_law_web, dd_law_pair_forms, dd_law_order, dd_law_below, dd_law_covers, dd_law_is_integer, dd_law_same, dd_law_order_arrows, dd_law_table_of, dd_law_toggled, dd_law_changed, dd_law_ask_web, dd_law_ask_order, dd_law_is_order, dd_law_is_web, dd_law_answers, dd_law_odd_refused, dd_law]
def chs : List Ck := [cFa (.glo "is_whole"),
  cFa (.glo "is_sequence"),
  cFa (.glo "is_between"),
  cFa (.glo "check_number"),
  cFa (.glo "_reach_of"),
  cFa (.glo "_is_rising_pair"),
  dtB ("Order", some "__init__") 0,
  cFa (.glo "things_in"),
  cFa (.glo "_next_above"),
  cFa (.glo "check_thing"),
  cFa (.glo "check_order"),
  cFa (.glo "_is_place_pair"),
  dtB ("Web", some "__init__") 0,
  cFa (.glo "joins"),
  cFa (.glo "_rule_arrows"),
  cFa (.glo "order_web"),
  cFa (.glo "_read_order"),
  cFa (.glo "is_order_web"),
  cFa (.glo "order_of_web"),
  cFa (.glo "_law_mix"),
  cFa (.glo "_law_store"),
  cFa (.glo "_law_take"),
  cFa (.glo "_law_between"),
  cFa (.glo "_law_edge"),
  cFa (.glo "_law_pick"),
  cFa (.glo "_law_shuffled"),
  cFa (.glo "_law_form"),
  cFa (.glo "_law_odd"),
  cFa (.glo "_law_far"),
  cFa (.glo "_law_any"),
  cFa (.glo "_law_named_arrows"),
  cFa (.glo "_law_web"),
  cFa (.glo "_law_pair_forms"),
  cFa (.glo "_law_order"),
  cFa (.glo "_law_below"),
  cFa (.glo "_law_covers"),
  cFa (.glo "_law_is_integer"),
  cFa (.glo "_law_same"),
  cFa (.glo "_law_order_arrows"),
  cFa (.glo "_law_table_of"),
  cFa (.glo "_law_toggled"),
  cFa (.glo "_law_changed"),
  cFa (.glo "_law_ask_web"),
  cFa (.glo "_law_ask_order"),
  cFa (.glo "_law_is_order"),
  cFa (.glo "_law_is_web"),
  cFa (.glo "_law_answers"),
  cFa (.glo "_law_odd_refused"),
  cFa (.glo "law"),
  cFa (.int "MOST_ARROWS" 2000),
  cFa (.int "MOST_PLACES" 2000),
  cFa (.int "MOST_THINGS" 200),
  cFa (.glo "Order"),
  cFa (.glo "Web"),
  cFa (.mkr "Order"),
  cIns "Order",
  cNoK "Order",
  cFa (.mkr "Web"),
  cIns "Web",
  cNoK "Web",
  cFa (.free "bool"),
  cFa (.free "dict"),
  cFa (.free "enumerate"),
  cFa (.free "int"),
  cFa (.free "isinstance"),
  cFa (.free "len"),
  cFa (.free "list"),
  cFa (.free "max"),
  cFa (.free "min"),
  cFa (.free "range"),
  cFa (.free "sorted"),
  cFa (.free "str"),
  cFa (.free "tuple"),
  cFa (.noat "Order" "_reach"),
  cFa (.noat "Web" "_arrows"),
  cFa (.noat "Web" "_ins"),
  cFa (.noat "Web" "_known"),
  cFa (.noat "Web" "_outs"),
  cProp "Order" "covers",
  cProp "Order" "size",
  cProp "Web" "arrows",
  cProp "Web" "places",
  cFa (.meth "Order" "__eq__"),
  cFa (.meth "Order" "__len__"),
  cFa (.meth "Order" "__ne__"),
  cFa (.meth "Order" "at_or_below"),
  cFa (.meth "Web" "__contains__"),
  cFa (.meth "Web" "__len__"),
  cFa (.glo "BadNumber"),
  cFa (.keep "BadNumber"),
  cExC "BadNumber",
  cTy "BadNumber",
  cKv "BadNumber",
  cExc "BadNumber",
  cFa (.glo "BadOrder"),
  cFa (.keep "BadOrder"),
  cExC "BadOrder",
  cTy "BadOrder",
  cKv "BadOrder",
  cOex "BadOrder",
  cInit "BadOrder",
  cFa (.noat "BadOrder" "bad_at"),
  cFa (.glo "BadWeb"),
  cFa (.keep "BadWeb"),
  cExC "BadWeb",
  cTy "BadWeb",
  cKv "BadWeb",
  cOex "BadWeb",
  cInit "BadWeb",
  cFa (.noat "BadWeb" "bad_at"),
  cFa (.glo "HueError"),
  cFa (.keep "HueError"),
  cExC "HueError",
  cTy "HueError",
  cKv "HueError",
  cExc "HueError",
  cFa (.glo "TooMany"),
  cFa (.keep "TooMany"),
  cExC "TooMany",
  cTy "TooMany",
  cKv "TooMany",
  cOex "TooMany",
  cInit "TooMany",
  cFa (.noat "TooMany" "most"),
  cKit "Order" "Web" false,
  cKit "Web" "Order" false,
  cFa (.exm "BadNumber" "BadNumber" true),
  cKit "BadNumber" "BadNumber" true,
  cFa (.exm "BadNumber" "BadOrder" false),
  cKit "BadNumber" "BadOrder" false,
  cFa (.exm "BadNumber" "BadWeb" false),
  cKit "BadNumber" "BadWeb" false,
  cFa (.exm "BadNumber" "HueError" true),
  cKit "BadNumber" "HueError" true,
  cFa (.exm "BadNumber" "TooMany" false),
  cKit "BadNumber" "TooMany" false,
  cFa (.exm "BadOrder" "BadNumber" false),
  cKit "BadOrder" "BadNumber" false,
  cFa (.exm "BadOrder" "BadOrder" true),
  cKit "BadOrder" "BadOrder" true,
  cFa (.exm "BadOrder" "BadWeb" false),
  cKit "BadOrder" "BadWeb" false,
  cFa (.exm "BadOrder" "HueError" true),
  cKit "BadOrder" "HueError" true,
  cFa (.exm "BadOrder" "TooMany" false),
  cKit "BadOrder" "TooMany" false,
  cFa (.exm "BadWeb" "BadNumber" false),
  cKit "BadWeb" "BadNumber" false,
  cFa (.exm "BadWeb" "BadOrder" false),
  cKit "BadWeb" "BadOrder" false,
  cFa (.exm "BadWeb" "BadWeb" true),
  cKit "BadWeb" "BadWeb" true,
  cFa (.exm "BadWeb" "HueError" true),
  cKit "BadWeb" "HueError" true,
  cFa (.exm "BadWeb" "TooMany" false),
  cKit "BadWeb" "TooMany" false,
  cFa (.exm "HueError" "BadNumber" false),
  cKit "HueError" "BadNumber" false,
  cFa (.exm "HueError" "BadOrder" false),
  cKit "HueError" "BadOrder" false,
  cFa (.exm "HueError" "BadWeb" false),
  cKit "HueError" "BadWeb" false,
  cFa (.exm "HueError" "HueError" true),
  cKit "HueError" "HueError" true,
  cFa (.exm "HueError" "TooMany" false),
  cKit "HueError" "TooMany" false,
  cFa (.exm "TooMany" "BadNumber" false),
  cKit "TooMany" "BadNumber" false,
  cFa (.exm "TooMany" "BadOrder" false),
  cKit "TooMany" "BadOrder" false,
  cFa (.exm "TooMany" "BadWeb" false),
  cKit "TooMany" "BadWeb" false,
  cFa (.exm "TooMany" "HueError" true),
  cKit "TooMany" "HueError" true,
  cFa (.exm "TooMany" "TooMany" true),
  cKit "TooMany" "TooMany" true]
def loose0 : List Str := ["_wall", "HueError", "BadWeb", "BadOrder", "BadNumber", "TooMany", "is_whole", "is_sequence", "is_between", "check_number", "MOST_THINGS", "Order", "check_order", "check_thing", "check_size", "things_in", "_is_rising_pair", "_reach_of", "_next_above", "_covers_beside", "MOST_PLACES", "MOST_ARROWS", "Web", "_is_place_pair", "joins", "order_web", "is_order_web", "order_of_web", "_rule_arrows", "_read_order"]
def loose1 : List Str := ["_law_mix", "_law_store", "_law_take", "_law_between", "_law_edge", "_law_pick", "_law_shuffled", "_law_form", "_law_odd", "_law_far", "_law_any", "_law_named_arrows", "_law_web", "_law_pair_forms", "_law_order", "_law_below", "_law_covers", "_law_is_integer", "_law_same", "_law_order_arrows", "_law_table_of", "_law_toggled", "_law_changed", "_law_ask_web", "_law_ask_order", "_law_is_order", "_law_is_web", "_law_answers", "_law_odd_refused"]
def loose : List Str := loose0 ++ loose1
abbrev R : PySem.W.OpenRow := PySem.W.OpenLaw.row PySem.Challenge.rw_huewalks_k38_order_of_web
abbrev hk : PySem.W.Hook := hookB 6 chs fns
def ob (s : PySem.W.SharedT) : AlB := obsBG 6 chs fns (HandSHeadRun.getT s)
theorem ob_eq (s : PySem.W.SharedT) : ob s = hk.obs s.abs := obsBG_eq (HandSHeadRun.getT_eq s)
theorem run (w : World) : HandSHeadRun.RunEq R (PySem.W.view R.prog [65]) hk ob 16000 loose w := by
  intro os
  kernel_rfl
end Lk

set_option Elab.async false
set_option linter.all false
set_option maxRecDepth 100000
set_option maxHeartbeats 4000000
/-! sorted of a dict whose keys are pairs of ints, any number of them. -/
namespace Gx
open PySem PySem.Spec PyProof.Rows L2
def pairAt (H : Hp) : V → Int × Int
  | .ref t => (match H t with
    | some (.tup [.int i, .int j]) => (i, j)
    | _ => (0, 0))
  | _ => (0, 0)
theorem pairAt_of {H : Hp} {t : Addr} {i j : Int} (h : H t = some (.tup [.int i, .int j])) : pairAt H (.ref t) = (i, j) := by
  show (match H t with
    | some (.tup [.int i, .int j]) => (i, j)
    | _ => (0, 0)) = (i, j)
  rw [h]
def kpair : List L2.Key → Int × Int
  | [.inl i, .inl j] => (i, j)
  | _ => (0, 0)
def rSortedDT : List V → Hp → VK → Prop := fun vs H Q => ∃ (a : Addr) (kvs : List (List L2.Key × V)), vs = [.ref a] ∧ Rd H a (.dT kvs) ∧ (∀ e ∈ kvs, ∃ i j, e.1 = [.inl i, .inl j]) ∧
  ∀ ys p, SrtO.Srtd (ltP (pairAt H)) ys → (ys.map (pairAt H)).Perm (kvs.map fun e => kpair e.1) → (∀ y ∈ ys, ∃ t, y = V.ref t ∧ H t = some (.tup [.int (pairAt H y).1, .int (pairAt H y).2])) → H p = none → Q (.ref p) (upd H p (.lst ys))
section
variable {X : Cx}
theorem cr_sortedDT (hcalm : X.calm = true) : CallR X (.builtin "sorted") rSortedDT := by
  intro pins s σ H vs us Q I r q
  obtain ⟨a, kvs, rfl, hd, hks, q⟩ := q
  obtain ⟨u, rfl, ru⟩ := vals1 r
  obtain rfl : u = Value.ref a := ru
  obtain ⟨z, lo, xs, rel, dd⟩ := dt_rd I.hok hd
  obtain ⟨es, ep, raw, hsz, hes⟩ := dd.raw
  have lx : kvs.length = xs.length := Paired.length rel
  have ent : ∀ (i : Nat) (hi : i < es.size), ∃ (e : List L2.Key × V) (t : Addr), kvs[i]? = some e ∧ es[i].key = Value.ref t ∧ H t = some (.tup (e.1.map kV)) := by
    intro i hi
    obtain ⟨y, hy, hk, _, _⟩ := hes i hi
    obtain ⟨e, he, r1, r2, r3⟩ := L2.DX.pget rel hy
    exact ⟨e, y.2.1, he, hk, r2⟩
  have hz : es.size ≤ sizeLine := by omega
  refine Calls.call_function_entry PyProof.Rows.kind_sorted PyProof.Rows.plain_sorted PyProof.Rows.entry_sorted (PyProof.Rows.args_sorted1 _) ?_
  unfold Builtin.«sorted»
  refine wpAny_bind (m := checkCount "sorted" 1 1 _) (wpAny_pure ?_)
  refine wpAny_bind (PySem.W.kdu_collect (A := X.A.in1) (KdlSrc.rawDict (es := es) (ep := ep) lo) (I.ok.hd hcalm) raw hz fun h' tk acc hk hacc => ?_)
  have hal : acc.toList.length = kvs.length := by rw [Array.length_toList, hacc.1, hsz, lx]
  have at_ : ∀ (i : Nat) (v : Value), acc.toList[i]? = some v → ∃ (e : List L2.Key × V) (t : Addr) (x y : Int), kvs[i]? = some e ∧ v = Value.ref t ∧ e.1 = [.inl x, .inl y] ∧ H t = some (.tup [.int x, .int y]) := by
    intro i v hv
    obtain ⟨hi, rfl⟩ := hacc.2 i v (by rw [← Array.getElem?_toList]; exact hv)
    obtain ⟨e, t, he, hk2, ht⟩ := ent i hi
    obtain ⟨x, y, exy⟩ := hks e (List.mem_of_getElem? he)
    rw [exy] at ht
    exact ⟨e, t, x, y, he, hk2, exy, ht⟩
  have mem_ : ∀ v ∈ acc.toList, ∃ (t : Addr) (x y : Int), v = Value.ref t ∧ H t = some (.tup [.int x, .int y]) := fun v hv => by
    obtain ⟨i, hi⟩ := List.mem_iff_getElem?.mp hv
    obtain ⟨_, t, x, y, _, h1, _, h2⟩ := at_ i v hi
    exact ⟨t, x, y, h1, h2⟩
  have I1 : Inv X pins σ H { s with heap := h', toks := tk } := I.kept hk
  have hzl : acc.toList.length ≤ sizeLine := by rw [hal]; exact z
  refine wpAny_bind (wpAny_newList ?_ hzl)
  have hoL : (h'.push (seqObj "list" acc.toList.toArray 0)).get? h'.objs.size = some (seqObj "list" acc.toList.toArray 0) := Heap.get?_push_size _ rfl
  show wpAny _ _ _ _ _ { s with heap := h'.push (seqObj "list" acc.toList.toArray 0), toks := tk }
  have pr : ∀ v ∈ acc.toList, Srt.IsPair (h'.push (seqObj "list" acc.toList.toArray 0)) v (pairAt H (backV v)).1 (pairAt H (backV v)).2 := fun v hv => by
    obtain ⟨t, x, y, rfl, ht⟩ := mem_ v hv
    obtain ⟨_, its, r2, o, ho, hc, n, hdt⟩ := I1.hok _ _ ht
    obtain ⟨u1, u2, rfl, ri, rj⟩ := vals2 r2
    obtain ⟨t1, rfl⟩ := ri
    obtain ⟨t2, rfl⟩ := rj
    have e : pairAt H (backV (.ref t)) = (x, y) := pairAt_of ht
    rw [e]
    exact ⟨t, o, t1, t2, n, rfl, Heap.get?_push_of_some _ ho, hc, hdt⟩
  refine wpAny_bind (wpAny_holding (wpAny_call_entry PyProof.Rows.slot_list_sort ⟨_, hoL, rfl⟩ PyProof.Rows.entry_list_sort
    (SrtO.list_sort_ord (s := { s with heap := h'.push (seqObj "list" acc.toList.toArray 0), toks := tk }) (SrtO.swo_lex fun u => pairAt H (backV u)) hoL hzl (fun h2 => SrtO.pairs_sortableO (by omega) pr fun o e => ?_) fun out hs hb => ⟨_, rfl, ?_⟩)
    (PyProof.Rows.args_list_sort _)))
  · have e' : some o = some (seqObj "list" acc.toList.toArray 0) := e.symm.trans hoL
    cases e'
    intro c
    exact absurd (Value.type.inj c) (by decide)
  · obtain ⟨e', he'⟩ := PyProof.Rows.sortedHeap_at (vs := acc.toList) (out := out.toArray) hoL
    have hperm := hb.perm
    have h3 : ∀ u ∈ out, ∃ t x y, u = Value.ref t ∧ H t = some (.tup [.int x, .int y]) := fun u hu => mem_ u (hperm.mem_iff.mp hu)
    have hlen : (out.map backV).length ≤ sizeLine := by rw [List.length_map, hperm.length_eq]; exact hzl
    refine wpAny_pure ⟨_, rfl, .ref h'.objs.size, upd H h'.objs.size (.lst (out.map backV)), I1.laid (t' := tk) (fun b u e => ?_) (Nat.le_refl _)
      (show ObjOk X.prog X.w _ _ _ (.lst (out.map backV)) from ⟨hlen, out, e', vals_back (fun u hu => let ⟨t, _, _, e, _⟩ := h3 u hu; ⟨t, e⟩), he'⟩), rfl, q (out.map backV) _ (SrtO.srtd_map hs) ?_ ?_ (I1.hok.fresh (Nat.le_refl _))⟩
    · have hb : b < h'.objs.size := Heap.lt_size e
      rw [PyProof.Rows.sortedHeap_old (Nat.ne_of_lt hb) (by rw [size_push']; exact Nat.lt_succ_of_lt hb)]
      exact Heap.get?_push_of_some _ e
    · rw [List.map_map]
      refine (hperm.map _).trans ?_
      refine List.Perm.of_eq (List.ext_getElem? fun i => ?_)
      rw [List.getElem?_map, List.getElem?_map]
      cases e : acc.toList[i]? with
      | none =>
        have : kvs[i]? = none := by
          rw [List.getElem?_eq_none_iff] at e ⊢
          omega
        rw [this]
        rfl
      | some v =>
        obtain ⟨en, t, x, y, he, rfl, exy, ht⟩ := at_ i v e
        rw [he]
        show some (pairAt H (.ref t)) = some (kpair en.1)
        rw [pairAt_of ht, exy]
        rfl
    · intro y hy
      obtain ⟨u, hu, rfl⟩ := List.mem_map.mp hy
      obtain ⟨t, x, y, rfl, ht⟩ := h3 u hu
      have e : pairAt H (backV (.ref t)) = (x, y) := pairAt_of ht
      refine ⟨t, rfl, ?_⟩
      rw [e]
      exact ht
end
end Gx

set_option Elab.async false
set_option linter.all false
set_option maxRecDepth 100000
set_option maxHeartbeats 4000000
/-! Webs as data: their arrows in order. -/
namespace Gx
open PySem PySem.Spec PyProof.Rows L2
def pD (q : Int × Int) : D := .tup [.int q.1, .int q.2]
def plt (p q : Int × Int) : Prop := p.1 < q.1 ∨ (p.1 = q.1 ∧ p.2 < q.2)
theorem put_keys {α : Type} [DecidableEq α] {kvs : List (α × V)} {k : α} {v : V} : (putK kvs k v).map (·.1) = if k ∈ kvs.map (·.1) then kvs.map (·.1) else kvs.map (·.1) ++ [k] := by
  unfold putK
  by_cases h : k ∈ kvs.map (·.1)
  · rw [if_pos h]
    have e : (kvs.any fun kv => decide (kv.1 = k)) = true := by
      obtain ⟨e, he, rfl⟩ := List.mem_map.mp h
      exact List.any_eq_true.mpr ⟨e, he, decide_eq_true rfl⟩
    rw [if_pos e, List.map_map]
    refine List.map_congr_left fun e _ => ?_
    show (if e.1 = k then (e.1, v) else e).1 = e.1
    by_cases q : e.1 = k
    · rw [if_pos q]
    · rw [if_neg q]
  · rw [if_neg h]
    have e : ¬ (kvs.any fun kv => decide (kv.1 = k)) = true := fun z => by
      obtain ⟨e, he, q⟩ := List.any_eq_true.mp z
      exact h (List.mem_map.mpr ⟨e, he, of_decide_eq_true q⟩)
    rw [if_neg e, List.map_append]
    rfl
/-- the pairs that a dict has as keys, each once -/
structure Keys (kvs : List (List L2.Key × V)) (ps : List (Int × Int)) : Prop where
  two : ∀ e ∈ kvs, ∃ i j, e.1 = [.inl i, .inl j]
  nd : (kvs.map fun e => kpair e.1).Nodup
  mem : ∀ q, q ∈ (kvs.map fun e => kpair e.1) ↔ q ∈ ps
  len : kvs.length ≤ ps.length
theorem Keys.nil : Keys [] [] := ⟨fun e h => (nomatch h), List.nodup_nil, fun q => Iff.rfl, Nat.le_refl _⟩
theorem kp_map (kvs : List (List L2.Key × V)) : (kvs.map fun e => kpair e.1) = (kvs.map (·.1)).map kpair := by rw [List.map_map]; rfl
theorem Keys.put {kvs : List (List L2.Key × V)} {ps : List (Int × Int)} (K : Keys kvs ps) (i j : Int) (v : V) : Keys (putK kvs [.inl i, .inl j] v) (ps ++ [(i, j)]) := by
  have hk := put_keys (kvs := kvs) (k := [Sum.inl i, Sum.inl j]) (v := v)
  have two' : ∀ k' ∈ (putK kvs [.inl i, .inl j] v).map (·.1), ∃ a b, k' = [Sum.inl a, Sum.inl b] := fun k' h => by
    rw [hk] at h
    have old : k' ∈ kvs.map (·.1) → ∃ a b, k' = [Sum.inl a, Sum.inl b] := fun h => by
      obtain ⟨e, he, rfl⟩ := List.mem_map.mp h
      exact K.two e he
    by_cases q : [Sum.inl i, Sum.inl j] ∈ kvs.map (·.1)
    · rw [if_pos q] at h
      exact old h
    · rw [if_neg q] at h
      rcases List.mem_append.mp h with h | h
      · exact old h
      · exact ⟨i, j, List.mem_singleton.mp h⟩
  have hl : (putK kvs [.inl i, .inl j] v).length ≤ kvs.length + 1 := by
    have e := congrArg List.length hk
    rw [List.length_map] at e
    rw [e]
    split
    · rw [List.length_map]; omega
    · rw [List.length_append, List.length_map]; exact Nat.le_refl _
  refine ⟨fun e he => two' _ (List.mem_map.mpr ⟨e, he, rfl⟩), ?_, fun q => ?_, by rw [List.length_append]; have := K.len; show _ ≤ _ + 1; omega⟩
  · rw [kp_map, hk]
    by_cases q : [Sum.inl i, Sum.inl j] ∈ kvs.map (·.1)
    · rw [if_pos q, ← kp_map]
      exact K.nd
    · rw [if_neg q, List.map_append, ← kp_map]
      refine List.nodup_append.mpr ⟨K.nd, by simp, fun x hx y hy => ?_⟩
      rw [List.mem_singleton.mp hy]
      rintro rfl
      obtain ⟨e, he, e2⟩ := List.mem_map.mp hx
      obtain ⟨a, b, e3⟩ := K.two e he
      rw [e3] at e2
      have e4 : (a, b) = (i, j) := e2
      cases e4
      exact q (List.mem_map.mpr ⟨e, he, e3⟩)
  · rw [kp_map, hk, List.mem_append, ← K.mem q]
    by_cases z : [Sum.inl i, Sum.inl j] ∈ kvs.map (·.1)
    · rw [if_pos z, ← kp_map]
      refine ⟨.inl, fun h => h.elim id fun h => ?_⟩
      rw [List.mem_singleton.mp h, kp_map]
      exact List.mem_map.mpr ⟨_, z, rfl⟩
    · rw [if_neg z, List.map_append, ← kp_map, List.mem_append]
      exact Iff.rfl
theorem Keys.length {kvs : List (List L2.Key × V)} {ps A : List (Int × Int)} (K : Keys kvs ps) (h1 : A.Nodup) (h2 : ∀ q, q ∈ A ↔ q ∈ ps) : kvs.length = A.length := by
  have p : (kvs.map fun e => kpair e.1).Perm A := (List.perm_ext_iff_of_nodup K.nd h1).mpr fun q => (K.mem q).trans (h2 q).symm
  have := p.length_eq
  rwa [List.length_map] at this
theorem plt_nd {A : List (Int × Int)} (h : A.Pairwise plt) : A.Nodup := h.imp fun {a b} h e => by
  subst e
  rcases h with h | ⟨_, h⟩
  · exact Int.lt_irrefl _ h
  · exact Int.lt_irrefl _ h
/-- one order alone -/
theorem plt_one : ∀ {A B : List (Int × Int)}, A.Pairwise plt → B.Pairwise plt → A.Perm B → A = B
  | A, B, h1, h2, p => List.Perm.eq_of_pairwise (le := plt) (fun a b _ _ h h' => by
      exfalso
      unfold plt at h h'
      omega) h1 h2 p
theorem srt_plt {H : Hp} {ys : List V} (h : SrtO.Srtd (ltP (pairAt H)) ys) (nd : (ys.map (pairAt H)).Nodup) : (ys.map (pairAt H)).Pairwise plt := by
  rw [List.pairwise_map]
  have nd' := List.pairwise_map.mp nd
  refine (List.Pairwise.and h nd').imp fun {x y} ⟨h, n⟩ => ?_
  have a := SrtO.lexB_no.mp h
  unfold plt
  have hn : ¬ ((pairAt H x).1 = (pairAt H y).1 ∧ (pairAt H x).2 = (pairAt H y).2) := fun z => n (Prod.ext z.1 z.2)
  omega
/-- where the arrows from u go, where those into v come from -/
def outsOf (A : List (Int × Int)) (u : Int) : List Int := (A.filter fun q => decide (q.1 = u)).map (·.2)
def insOf (A : List (Int × Int)) (v : Int) : List Int := (A.filter fun q => decide (q.2 = v)).map (·.1)
theorem outs_snoc (A : List (Int × Int)) (q : Int × Int) (u : Int) : outsOf (A ++ [q]) u = if q.1 = u then outsOf A u ++ [q.2] else outsOf A u := by
  unfold outsOf
  rw [List.filter_append, List.map_append]
  by_cases h : q.1 = u
  · simp [h]
  · simp [h]
theorem ins_snoc (A : List (Int × Int)) (q : Int × Int) (v : Int) : insOf (A ++ [q]) v = if q.2 = v then insOf A v ++ [q.1] else insOf A v := by
  unfold insOf
  rw [List.filter_append, List.map_append]
  by_cases h : q.2 = v
  · simp [h]
  · simp [h]
/-- a row of lists of ints, each at its own place -/
def Rows (H : Hp) (bs : List Addr) (f : Int → List Int) : Prop := ∀ (u : Nat) (b : Addr), bs[u]? = some b → H b = some (.lst ((f u).map V.int))
/-- an object of the class C, a web: n places, the arrows A in order -/
def IsWeb (C : Addr) (H : Hp) (x : Addr) (n : Int) (A : List (Int × Int)) : Prop := ∃ (dx k l o i : Addr) (kvs : List (List L2.Key × V)) (ys : List V) (bs cs : List Addr),
  H x = some (.ins C dx (putF "_ins" (.ref i) (putF "_outs" (.ref o) (putF "_arrows" (.ref l) (putF "_known" (.ref k) []))))) ∧ H k = some (.dT kvs) ∧ Keys kvs A ∧ H l = some (.lst ys) ∧ DvL H ys (A.map pD) ∧ A.Pairwise plt ∧ (∀ q ∈ A, 0 ≤ q.1 ∧ q.1 < n ∧ 0 ≤ q.2 ∧ q.2 < n) ∧
  0 ≤ n ∧ A.length ≤ 2000 ∧ H o = some (.lst (bs.map V.ref)) ∧ bs.length = n.toNat ∧ Rows H bs (outsOf A) ∧ H i = some (.lst (cs.map V.ref)) ∧ cs.length = n.toNat ∧ Rows H cs (insOf A)
theorem IsWeb.mono {C x : Addr} {H H' : Hp} {n : Int} {A : List (Int × Int)} (h : IsWeb C H x n A) (s : Same H H') : IsWeb C H' x n A := by
  obtain ⟨dx, k, l, o, i, kvs, ys, bs, cs, h1, h2, h3, h4, h5, h6, h7, h8, h9, h10, h11, h12, h13, h14, h15⟩ := h
  exact ⟨dx, k, l, o, i, kvs, ys, bs, cs, s _ _ h1, s _ _ h2, h3, s _ _ h4, h5.mono s, h6, h7, h8, h9, s _ _ h10, h11, fun u b e => s _ _ (h12 u b e), s _ _ h13, h14, fun u b e => s _ _ (h15 u b e)⟩
/-- sorted(d): the pairs in order -/
theorem r_sortedDT {H : Hp} {Q : VK} {a : Addr} {kvs : List (List L2.Key × V)} {A : List (Int × Int)} (h : H a = some (.dT kvs)) (K : Keys kvs A) (o : A.Pairwise plt)
    (k : ∀ p ys, Nw H p → DvL H ys (A.map pD) → Q (.ref p) (upd H p (.lst ys))) : rSortedDT [.ref a] H Q := by
  refine ⟨a, kvs, rfl, .inl h, K.two, fun ys p h1 h2 h3 hp => k p ys hp ?_⟩
  have pA : (ys.map (pairAt H)).Perm A := h2.trans ((List.perm_ext_iff_of_nodup K.nd (plt_nd o)).mpr K.mem)
  have eA : ys.map (pairAt H) = A := plt_one (srt_plt h1 (pA.nodup_iff.mpr (plt_nd o))) o pA
  subst eA
  clear h1 h2 pA o K k
  induction ys with
  | nil => rfl
  | cons y ys ih =>
    obtain ⟨t, rfl, ht⟩ := h3 y (List.mem_cons_self ..)
    exact ⟨_, _, rfl, ⟨t, _, rfl, ht, by show 2 ≤ sizeLine; decide, _, _, rfl, rfl, _, _, rfl, rfl, rfl⟩, ih fun z hz => h3 z (List.mem_cons_of_mem _ hz)⟩
section
variable {σ : L2.St} {H : Hp} {nn : L2.St → Hp → Prop} {rt : VK} {g : TG} {tb : TS} {K : PySem.W.Frag} {p : Addr} {xs : List V} {j : Nat}
end
/-- rows that are new, empty lists -/
def NewRows (G H : Hp) (L : Addr) (bs : List Addr) : Prop := bs.Nodup ∧ ∀ b ∈ bs, b ≠ L ∧ G b = none ∧ H b = some (.lst [])
theorem NewRows.nil {G H : Hp} {L : Addr} : NewRows G H L [] := ⟨List.nodup_nil, fun b h => nomatch h⟩
theorem NewRows.add {G H : Hp} {L b : Addr} {bs : List Addr} {l : List V} (h : NewRows G H L bs) (s : Same G H) (hL : H L = some (.lst l)) (hb : Nw H b) (xs : List V) : NewRows G (upd (upd H b (.lst [])) L (.lst xs)) L (bs ++ [b]) := by
  have nL : L ≠ b := nw_ne hb hL
  refine ⟨List.nodup_append.mpr ⟨h.1, by simp, fun y hy z hz => ?_⟩, fun y hy => ?_⟩
  · rw [List.mem_singleton.mp hz]
    exact nw_ne hb (h.2 y hy).2.2
  · rcases List.mem_append.mp hy with hy | hy
    · obtain ⟨h1, h2, h3⟩ := h.2 y hy
      exact ⟨h1, h2, (upd_ne h1).trans (nw_new hb _ _ h3)⟩
    · rw [List.mem_singleton.mp hy]
      exact ⟨nL.symm, s.free hb, (upd_ne nL.symm).trans upd_same⟩
theorem Rows.put {H : Hp} {bs : List Addr} {f : Int → List Int} {u : Nat} {b : Addr} {z : Int} (h : Rows H bs f) (nd : bs.Nodup) (hb : bs[u]? = some b) (g : Int → List Int) (h1 : g u = f u ++ [z]) (h2 : ∀ w : Nat, w ≠ u → g w = f w) :
    Rows (upd H b (.lst ((f u).map V.int ++ [.int z]))) bs g := fun w c hc => by
  by_cases e : w = u
  · subst e
    rw [hb] at hc
    cases hc
    rw [h1, List.map_append]
    exact upd_same
  · have n : c ≠ b := fun q => by
      subst q
      have l1 := (List.getElem?_eq_some_iff.mp hc).1
      exact e ((List.getElem?_inj l1 nd).mp (hc.trans hb.symm))
    rw [h2 w e]
    exact (upd_ne n).trans (h w c hc)
theorem Rows.other {H : Hp} {bs : List Addr} {f : Int → List Int} {b : Addr} {o : HO} (h : Rows H bs f) (n : b ∉ bs) : Rows (upd H b o) bs f := fun w c hc =>
  (upd_ne (fun q => n (by rw [← q]; exact List.mem_of_getElem? hc))).trans (h w c hc)
theorem outs_len (A : List (Int × Int)) (u : Int) : ((outsOf A u).map V.int).length ≤ A.length := by
  unfold outsOf
  rw [List.length_map, List.length_map]
  exact List.length_filter_le _ _
theorem ins_len (A : List (Int × Int)) (u : Int) : ((insOf A u).map V.int).length ≤ A.length := by
  unfold insOf
  rw [List.length_map, List.length_map]
  exact List.length_filter_le _ _
end Gx

set_option Elab.async false
set_option linter.all false
set_option maxRecDepth 100000
set_option maxHeartbeats 4000000
/-! own __len__. -/
namespace Gx
open PySem PySem.Spec PyProof.Rows L2
section
variable {X : Cx} {k : Nat} {f C : Addr} {fd : FuncData} {sp : Sp}
def rLenI (C : Addr) (sp : Sp) : List V → Hp → VK → Prop := fun xs H Q => ∃ (a dx : Addr) (fs : List (Str × V)), xs = [.ref a] ∧ H a = some (.ins C dx fs) ∧ sp [.ref a] H (fun v H' => ∃ n : Int, v = .int n ∧ 0 ≤ n ∧ n < 2 ^ 63 ∧ Q (.int n) H') E0
theorem call_lenI (me : Meth X.K C "__len__" f) (F : FnOk X.prog X.w X.K X.mg X.base CX0 k f fd ["self"] sp) (hr : Room (k + 1) X.A) (hb : Binds X.K fd ["self"] []) : CallR X (.builtin "len") (rLenI C sp) := by
  intro pins s σ H xs us Q I r h
  obtain ⟨a, dx, fs, rfl, ea, h⟩ := h
  obtain rfl := Vals.ref1 r
  obtain ⟨mA, O, _, _, _, _⟩ := ins_get I.hok ea
  obtain ⟨od, J, _⟩ := O.look
  refine Calls.call_function_entry PySem.kind_len PySem.plain_len PySem.entry_len (PySem.args_len1 _) ?_
  unfold Builtin.«len»
  refine wpAny_bind (m := oneArg "len" _) (wpAny_pure ?_)
  refine wpAny_bind (m := callSpecial? (.ref a) (Str.ofString "__len__")) (PySem.W.special_fn I.kIn J me.at_ (beq_iff_eq.mp me.fn) (wpAny_call (codeAny_mono (F.run X.A.in1 X.stack s H ⟨[.ref a], []⟩ [.ref a] [.ref a] (fun v H' => ∃ n : Int, v = .int n ∧ 0 ≤ n ∧ n < 2 ^ 63 ∧ Q (.int n) H') E0 hr.in1 I.env0.in1 (by have := hb s [.ref a] I.kIn rfl; exact this) (.cons rfl .nil) h) fun r s' hq => ?_)))
  rcases r with er | fl
  · exact hq.elim
  · cases fl with
    | ret u =>
      obtain ⟨v, H', I2, rv, n, rfl, n0, n1, q⟩ := I.after hq
      obtain ⟨t, rfl⟩ := rv
      show wpAny _ _ _ _ _ _
      refine wpAny_bind (wpAny_holding (wpAny_pure ?_))
      refine wpAny_bind (wpAny_letGo ?_)
      show wpAny _ _ (if n < 0 then _ else _) _ _ _
      rw [if_neg (by omega)]
      show wpAny _ _ (if n ≥ 2 ^ 63 then _ else _) _ _ _
      rw [if_neg (by omega)]
      exact wpAny_bind (wpAny_mkInt (wpAny_pure ⟨_, rfl, .int n, H', I2.tok _, ⟨_, rfl⟩, q⟩))
    | next => exact hq.elim
    | brk => exact hq.elim
    | cont => exact hq.elim
def rInI (C : Addr) (sp : Sp) : R2 := fun x y H Q => ∃ (a dx : Addr) (fs : List (Str × V)), y = .ref a ∧ H a = some (.ins C dx fs) ∧ sp [.ref a, x] H (fun v H' => ∃ b : Bool, v = .bl b ∧ Q (.bl b) H') E0
end
/-! ### a method called inside a try -/
def tMethS (C : Addr) (m : Str) (sp : Sp) (E : L2.St → XK) (ta : TE) (t : TA) : TE := fun σ H Q => ta σ H fun x G => ∃ (a dx : Addr) (fs : List (Str × V)), x = .ref a ∧ G a = some (.ins C dx fs) ∧ fs.lookup m = none ∧ t σ G fun vs G2 => sp (x :: vs) G2 Q (E σ)
section
variable {X : Cx} {CX : CXT} {k : Nat} {f C : Addr} {fd : FuncData} {ps : List Str} {sp : Sp} {E : L2.St → XK} {m : Str} {pos apos : Pos} {e o : Expr} {es : List Expr} {ta : TE} {t : TA}
end
/-! ### truth of a value -/
def tTru (K : PySem.W.Frag) (ta : TE) : TT := fun σ H Q => ta σ H fun x H' => ∃ k, TruV K x H' k ∧ Q k H'
theorem k_tru {X : Cx} {a : Expr} {ta : TE} (K : PySem.W.Frag) (ha : PE X a ta) (he : ∀ whole, isTrue a X.env whole = (do let v ← whole; standAt a.pos; holding [v] (truthy v)) := by intro _; rfl) (hK : X.K = K := by rfl) : PT X a (tTru K ta) := by
  subst hK
  exact pt_truth ha he
end Gx

set_option Elab.async false
set_option linter.all false
set_option maxRecDepth 100000
set_option maxHeartbeats 4000000
/-! shifts, bits, sorted of pairs backwards. -/
namespace Gx
open PySem PySem.Spec PyProof.Rows L2
def rShl : R2 := fun x y H Q => ∃ (i : Int) (k : Nat), x = .int i ∧ y = .int (k : Int) ∧ CShl i (k : Int) ∧ Q (.int (i * 2 ^ k)) H
def rShr : R2 := fun x y H Q => ∃ (i : Int) (k : Nat), x = .int i ∧ y = .int (k : Int) ∧ Q (.int (i / 2 ^ k)) H
theorem op_shl1 {X : Cx} : OpR X (binaryOp .LShift) rShl := op_shlN
theorem op_shr1 {X : Cx} : OpR X (binaryOp .RShift) rShr := op_shrN
def rOr : R2 := rI0 fun i j => .int (Builtin.bitOr i j)
def rAnd : R2 := rI0 fun i j => .int (Builtin.bitAnd i j)
def rXor : R2 := rI0 fun i j => .int (Builtin.bitXor i j)
theorem op_or1 {X : Cx} : OpR X (binaryOp .BitOr) rOr := op_or
theorem op_and1 {X : Cx} : OpR X (binaryOp .BitAnd) rAnd := op_and
theorem op_xor1 {X : Cx} : OpR X (binaryOp .BitXor) rXor := op_xor
/-- sorted(l, reverse=True), l of pairs of ints -/
def rSortedPR (K : PySem.W.Frag) : List V → List V → Hp → VK → Prop := fun vs zs H Q => ∃ (a : Addr) (xs : List V) (k : V → Int × Int), vs = [V.ref a] ∧ zs = [.bl true] ∧ SqL K H a xs ∧ (∀ x ∈ xs, ∃ t, x = V.ref t ∧ H t = some (.tup [.int (k x).1, .int (k x).2])) ∧
  ∀ ys p, SrtO.Srtd (ltP k) ys → ys.Perm xs → H p = none → Q (.ref p) (upd H p (.lst ys.reverse))
theorem cr_sortedPR {X : Cx} : CallRK X (.builtin "sorted") [Str.ofString "reverse"] (rSortedPR X.K) := by
  intro pins s σ H vs zs us ws Q I r rz h
  obtain ⟨a, xs, k, rfl, rfl, hs, hx, q⟩ := h
  obtain rfl := Vals.ref1 r
  obtain ⟨w1, rfl, e1⟩ := vals1 rz
  obtain rfl : w1 = Value.bool true := e1
  obtain ⟨its, rv, hl, hz⟩ := I.list hs
  obtain ⟨e1, e2⟩ := refs_back rv fun x m => by
    obtain ⟨t, e, _⟩ := hx x m
    exact ⟨t, e⟩
  have hp : ∀ v ∈ its, Srt.IsPair s.heap v (k (backV v)).1 (k (backV v)).2 := fun v hv => by
    obtain ⟨t, rfl⟩ := e2 v hv
    have hm : V.ref t ∈ xs := by rw [e1]; exact List.mem_map.mpr ⟨_, hv, rfl⟩
    obtain ⟨t', e, ht⟩ := hx _ hm
    cases e
    obtain ⟨_, its2, r2, o, ho, hc, n, hd⟩ := I.hok _ _ ht
    obtain ⟨u1, u2, rfl, ri, rj⟩ := vals2 r2
    obtain ⟨t1, rfl⟩ := ri
    obtain ⟨t2, rfl⟩ := rj
    exact ⟨t, o, t1, t2, n, rfl, ho, hc, hd⟩
  refine SrtR.sorted_ordK (b := true) (fun _ => rfl) (PyProof.Rows.args_sorted_rev _ _) (fun _ => PyProof.Rows.args_list_sort_rev _ _) (SrtO.swo_lex fun u => k (backV u)) hl.isList (by rw [← rv.length]; exact hz)
    (fun h2 h₁ a' ha' kp => SrtO.pairs_sortableO (by omega) (fun v hv => (hp v hv).keeps fun b o e _ => (kp b o e).2) fun o e => by
      have e' : h₁.get? a' = some o := e
      rw [ha'] at e'
      cases e'
      exact fun z => by
        injection z with z3
        exact absurd z3 (by decide)) fun out h1 h2 => ?_
  have h2p : out.Perm its := h2.perm.trans (List.reverse_perm _)
  have h3 : ∀ u ∈ out, ∃ a, u = Value.ref a := fun u hu => e2 u (h2p.mem_iff.mp hu)
  have hb : (out.map backV).Perm xs := by
    rw [e1]
    exact h2p.map backV
  obtain ⟨ep, he'⟩ := PyProof.Rows.sortedAll_at s.heap its (if true = true then out.toArray.reverse else out.toArray)
  have hlen : (out.map backV).reverse.length ≤ sizeLine := by
    rw [List.length_reverse, hb.length_eq]
    exact hz
  have er : (out.map backV).reverse = out.reverse.map backV := by rw [List.map_reverse]
  have h4 : ∀ u ∈ out.reverse, ∃ a, u = Value.ref a := fun u hu => h3 u (List.mem_reverse.mp hu)
  have ea : out.reverse.toArray = out.toArray.reverse := by
    apply Array.ext'
    rw [Array.toList_reverse]
  exact ⟨.ref _, upd H (s.heap.objs.size + 1) (.lst (out.map backV).reverse), I.laid (t' := s.toks) (fun _ _ => PyProof.Rows.sortedAll_old) (Nat.le_succ _) ⟨hlen, out.reverse, ep, by rw [er]; exact vals_back h4, by rw [ea]; exact he'⟩, rfl, q _ _ (SrtO.srtd_map h1) hb (I.hok.fresh (Nat.le_succ _))⟩
theorem k_sortR {X : Cx} (K : PySem.W.Frag) (hK : X.K = K := by rfl) : CallRK X (.builtin "sorted") [Str.ofString "reverse"] (rSortedPR K) := by subst hK; exact cr_sortedPR
end Gx

set_option Elab.async false
set_option linter.all false
set_option maxRecDepth 100000
set_option maxHeartbeats 4000000
/-! Pa: values seen whole, what a def owns, and the relation of both to the heap. -/
namespace Pl
open PySem L2 Gx PySem.Spec PyProof.Rows
/-- a value, seen whole; ob: an instance of the class at C with these attributes; pr: of which P holds -/
inductive E where
  | non | bl (b : Bool) | int (i : Int) | str (s : Str) | lst (xs : List E) | tup (xs : List E) | dic (kvs : List (L2.Key × E)) | dit (kvs : List (List L2.Key × E)) | ob (C : Addr) (fs : List (Str × E)) | pr (P : Hp → V → Prop)
mutual
def Ev (H : Hp) : V → E → Prop
  | v, .non => v = .non
  | v, .bl b => v = .bl b
  | v, .int i => v = .int i
  | v, .str s => v = .str s
  | v, .lst es => ∃ p vs, v = .ref p ∧ H p = some (.lst vs) ∧ vs.length ≤ sizeLine ∧ EvL H vs es
  | v, .tup es => ∃ p vs, v = .ref p ∧ H p = some (.tup vs) ∧ vs.length ≤ sizeLine ∧ EvL H vs es
  | v, .dic ps => ∃ p kvs, v = .ref p ∧ H p = some (.dK kvs) ∧ kvs.length ≤ sizeLine ∧ EvK H kvs ps
  | v, .dit ps => ∃ p kvs, v = .ref p ∧ H p = some (.dT kvs) ∧ kvs.length ≤ sizeLine ∧ EvT H kvs ps
  | v, .ob C fs => ∃ x dx fv, v = .ref x ∧ H x = some (.ins C dx fv) ∧ EvF H fv fs
  | v, .pr P => ∃ H1, Same H1 H ∧ P H1 v
def EvL (H : Hp) : List V → List E → Prop
  | vs, [] => vs = []
  | vs, e :: es => ∃ v r, vs = v :: r ∧ Ev H v e ∧ EvL H r es
def EvK (H : Hp) : List (L2.Key × V) → List (L2.Key × E) → Prop
  | ks, [] => ks = []
  | ks, (k, e) :: ps => ∃ v r, ks = (k, v) :: r ∧ Ev H v e ∧ EvK H r ps
def EvT (H : Hp) : List (List L2.Key × V) → List (List L2.Key × E) → Prop
  | ks, [] => ks = []
  | ks, (k, e) :: ps => ∃ v r, ks = (k, v) :: r ∧ Ev H v e ∧ EvT H r ps
def EvF (H : Hp) : List (Str × V) → List (Str × E) → Prop
  | ks, [] => ks = []
  | ks, (k, e) :: ps => ∃ v r, ks = (k, v) :: r ∧ Ev H v e ∧ EvF H r ps
end
mutual
theorem Ev.mono {H H' : Hp} (h : Same H H') : ∀ {e : E} {v : V}, Ev H v e → Ev H' v e
  | .non, _, q => q
  | .bl _, _, q => q
  | .int _, _, q => q
  | .str _, _, q => q
  | .lst _, _, ⟨p, vs, e, hp, hl, q⟩ => ⟨p, vs, e, h _ _ hp, hl, EvL.mono h q⟩
  | .tup _, _, ⟨p, vs, e, hp, hl, q⟩ => ⟨p, vs, e, h _ _ hp, hl, EvL.mono h q⟩
  | .dic _, _, ⟨p, vs, e, hp, hl, q⟩ => ⟨p, vs, e, h _ _ hp, hl, EvK.mono h q⟩
  | .dit _, _, ⟨p, vs, e, hp, hl, q⟩ => ⟨p, vs, e, h _ _ hp, hl, EvT.mono h q⟩
  | .ob _ _, _, ⟨x, dx, fv, e, hx, q⟩ => ⟨x, dx, fv, e, h _ _ hx, EvF.mono h q⟩
  | .pr _, _, ⟨H1, s, q⟩ => ⟨H1, s.trans h, q⟩
theorem EvL.mono {H H' : Hp} (h : Same H H') : ∀ {es : List E} {vs : List V}, EvL H vs es → EvL H' vs es
  | [], _, q => q
  | _ :: _, _, ⟨v, r, e, q, t⟩ => ⟨v, r, e, Ev.mono h q, EvL.mono h t⟩
theorem EvK.mono {H H' : Hp} (h : Same H H') : ∀ {ps : List (L2.Key × E)} {ks : List (L2.Key × V)}, EvK H ks ps → EvK H' ks ps
  | [], _, q => q
  | (_, _) :: _, _, ⟨v, r, e, q, t⟩ => ⟨v, r, e, Ev.mono h q, EvK.mono h t⟩
theorem EvT.mono {H H' : Hp} (h : Same H H') : ∀ {ps : List (List L2.Key × E)} {ks : List (List L2.Key × V)}, EvT H ks ps → EvT H' ks ps
  | [], _, q => q
  | (_, _) :: _, _, ⟨v, r, e, q, t⟩ => ⟨v, r, e, Ev.mono h q, EvT.mono h t⟩
theorem EvF.mono {H H' : Hp} (h : Same H H') : ∀ {ps : List (Str × E)} {ks : List (Str × V)}, EvF H ks ps → EvF H' ks ps
  | [], _, q => q
  | (_, _) :: _, _, ⟨v, r, e, q, t⟩ => ⟨v, r, e, Ev.mono h q, EvF.mono h t⟩
end
theorem EvL.length {H : Hp} : ∀ {es : List E} {vs : List V}, EvL H vs es → vs.length = es.length
  | [], vs, q => by rw [show vs = [] from q]; rfl
  | _ :: _, _, ⟨v, r, e, _, t⟩ => by rw [e, List.length_cons, List.length_cons, EvL.length t]
theorem EvL.get {H : Hp} : ∀ {es : List E} {vs : List V} {i : Nat} {e : E}, EvL H vs es → es[i]? = some e → ∃ v, vs[i]? = some v ∧ Ev H v e
  | [], _, _, _, _, h => by simp at h
  | _ :: _, _, 0, _, ⟨v, r, e, q, _⟩, h => by
    have := Option.some.inj h
    subst this
    exact ⟨v, by rw [e]; rfl, q⟩
  | _ :: es, _, i + 1, _, ⟨v, r, e, _, t⟩, h => by
    obtain ⟨y, h1, h2⟩ := EvL.get t (i := i) (by simpa using h)
    exact ⟨y, by rw [e]; simpa using h1, h2⟩
theorem EvL.at {H : Hp} {es : List E} {vs : List V} {i : Nat} {v : V} (h : EvL H vs es) (hv : vs[i]? = some v) : ∃ e, es[i]? = some e ∧ Ev H v e := by
  have hl := h.length
  have hi := (List.getElem?_eq_some_iff.mp hv).1
  obtain ⟨w, h1, h2⟩ := h.get (i := i) (List.getElem?_eq_getElem (by omega))
  rw [hv] at h1
  cases h1
  exact ⟨_, List.getElem?_eq_getElem (by omega), h2⟩
theorem EvL.append {H : Hp} : ∀ {es fs : List E} {vs ws : List V}, EvL H vs es → EvL H ws fs → EvL H (vs ++ ws) (es ++ fs)
  | [], _, vs, _, q, z => by
    rw [show vs = [] from q]
    exact z
  | _ :: _, _, _, ws, ⟨v, r, e, q, t⟩, z => ⟨v, r ++ ws, by rw [e]; rfl, q, EvL.append t z⟩
theorem EvL.one {H : Hp} {v : V} {e : E} (h : Ev H v e) : EvL H [v] [e] := ⟨v, [], rfl, h, rfl⟩
theorem EvL.drop {H : Hp} : ∀ {es : List E} {vs : List V} (n : Nat), EvL H vs es → EvL H (vs.drop n) (es.drop n)
  | _, _, 0, q => by simpa using q
  | [], vs, n + 1, q => by rw [show vs = [] from q]; rfl
  | _ :: _, _, n + 1, ⟨v, r, e, _, t⟩ => by rw [e]; simpa using EvL.drop n t
theorem EvL.take {H : Hp} : ∀ {es : List E} {vs : List V} (n : Nat), EvL H vs es → EvL H (vs.take n) (es.take n)
  | es, vs, 0, _ => by simp; rfl
  | [], vs, n + 1, q => by rw [show vs = [] from q]; rfl
  | _ :: _, _, n + 1, ⟨v, r, e, q, t⟩ => by
    rw [e, List.take_succ_cons, List.take_succ_cons]
    exact ⟨v, _, rfl, q, EvL.take n t⟩
theorem EvL.set {H : Hp} {v : V} {e : E} (h : Ev H v e) : ∀ {es : List E} {vs : List V} (i : Nat), EvL H vs es → EvL H (vs.set i v) (es.set i e)
  | [], vs, _, q => by rw [show vs = [] from q]; rfl
  | _ :: _, _, 0, ⟨_, r, e, _, t⟩ => by rw [e]; exact ⟨v, r, rfl, h, t⟩
  | _ :: _, _, i + 1, ⟨w, r, e, q, t⟩ => by rw [e]; exact ⟨w, _, rfl, q, EvL.set h i t⟩
theorem EvL.erase {H : Hp} : ∀ {es : List E} {vs : List V} (i : Nat), EvL H vs es → EvL H (vs.eraseIdx i) (es.eraseIdx i)
  | [], vs, _, q => by rw [show vs = [] from q]; rfl
  | _ :: _, _, 0, ⟨_, r, e, _, t⟩ => by rw [e]; exact t
  | _ :: _, _, i + 1, ⟨w, r, e, q, t⟩ => by rw [e]; exact ⟨w, _, rfl, q, EvL.erase i t⟩
theorem EvK.length {H : Hp} : ∀ {ps : List (L2.Key × E)} {ks : List (L2.Key × V)}, EvK H ks ps → ks.length = ps.length
  | [], ks, q => by rw [show ks = [] from q]; rfl
  | (_, _) :: _, _, ⟨v, r, e, _, t⟩ => by rw [e, List.length_cons, List.length_cons, EvK.length t]
theorem EvT.length {H : Hp} : ∀ {ps : List (List L2.Key × E)} {ks : List (List L2.Key × V)}, EvT H ks ps → ks.length = ps.length
  | [], ks, q => by rw [show ks = [] from q]; rfl
  | (_, _) :: _, _, ⟨v, r, e, _, t⟩ => by rw [e, List.length_cons, List.length_cons, EvT.length t]
abbrev obE (C : Addr) (fs : List (Str × E)) : E := .ob C fs
/-- what can be changed in place -/
def Mut (o : HO) : Prop := (∃ vs, o = .lst vs) ∨ (∃ ks, o = .dK ks) ∨ (∃ ks, o = .dT ks) ∨ (∃ C dx fv, o = .ins C dx fv) ∨ ∃ od u, o = .frz od u
/-- a thing of several addresses that no one else holds: what is known of it, and what it is once it is shared -/
structure Blob where
  as : List Addr
  P : Hp → Hp → V → Prop
  e : E
  mono : ∀ H H' W W' v, P H W v → Same W W' → (∀ q ∈ as, ∀ o, H q = some o → H' q = some o) → P H' W' v
  live : ∀ H W v, P H W v → ∀ q ∈ as, ∃ o, H q = some o ∧ Mut o
  frz : ∀ H W v, P H W v → (∀ q ∈ as, ∀ o, H q = some o → W q = some o) → Ev W v e
/-- what is known of a slot: nothing; a value; a list, a dict that no one else holds; the law's store -/
inductive M where
  | no | sh (e : E) | ow (es : List E) | od (kvs : List (L2.Key × E)) | ot (kvs : List (List L2.Key × E)) | sto | pt (q C dx : Addr) (fs : List (Str × E)) | o2 (q : Addr) (bs : List Addr) (ess : List (List E)) | bx (b : Blob)
/-- the heap without these addresses -/
def wos (O : List Addr) (H : Hp) : Hp := fun b => if b ∈ O then none else H b
theorem wos_in {O : List Addr} {H : Hp} {b : Addr} (h : b ∈ O) : wos O H b = none := if_pos h
theorem wos_out {O : List Addr} {H : Hp} {b : Addr} (h : b ∉ O) : wos O H b = H b := if_neg h
theorem wos_sub {O : List Addr} {H : Hp} : Same (wos O H) H := fun b o h => by
  by_cases e : b ∈ O
  · rw [wos_in e] at h; cases h
  · rwa [wos_out e] at h
theorem wos_some {O : List Addr} {H : Hp} {b : Addr} {o : HO} (h : wos O H b = some o) : b ∉ O ∧ H b = some o := by
  by_cases e : b ∈ O
  · rw [wos_in e] at h; cases h
  · rw [wos_out e] at h; exact ⟨e, h⟩
theorem wos_same {O O' : List Addr} {H H' : Hp} (h : ∀ b o, b ∉ O → H b = some o → b ∉ O' ∧ H' b = some o) : Same (wos O H) (wos O' H') := fun b o e => by
  obtain ⟨h1, h2⟩ := wos_some e
  obtain ⟨h3, h4⟩ := h b o h1 h2
  rw [wos_out h3]; exact h4
/-- lists at these addresses -/
def In2 (H W : Hp) : List Addr → List (List E) → Prop
  | [], [] => True
  | b :: bs, es :: ess => (∃ vs, H b = some (.lst vs) ∧ vs.length ≤ sizeLine ∧ EvL W vs es) ∧ In2 H W bs ess
  | _, _ => False
theorem In2.mono {H H' W W' : Hp} (sW : Same W W') : ∀ {bs : List Addr} {ess : List (List E)}, In2 H W bs ess → (∀ b ∈ bs, ∀ o, H b = some o → H' b = some o) → In2 H' W' bs ess
  | [], [], _, _ => trivial
  | b :: bs, es :: ess, ⟨⟨vs, h1, h2, h3⟩, h4⟩, k => ⟨⟨vs, k b (List.mem_cons_self ..) _ h1, h2, h3.mono sW⟩, In2.mono sW h4 fun c hc => k c (List.mem_cons_of_mem _ hc)⟩
  | [], _ :: _, h, _ => h.elim
  | _ :: _, [], h, _ => h.elim
theorem In2.live {H W : Hp} : ∀ {bs : List Addr} {ess : List (List E)}, In2 H W bs ess → ∀ b ∈ bs, ∃ vs, H b = some (.lst vs)
  | b :: bs, es :: ess, ⟨⟨vs, h1, _, _⟩, h4⟩, c, hc => (List.mem_cons.mp hc).elim (fun e => by rw [e]; exact ⟨vs, h1⟩) fun z => In2.live h4 c z
  | [], [], _, _, hc => nomatch hc
  | [], _ :: _, h, _, _ => h.elim
  | _ :: _, [], h, _, _ => h.elim
theorem In2.len {H W : Hp} : ∀ {bs : List Addr} {ess : List (List E)}, In2 H W bs ess → bs.length = ess.length
  | [], [], _ => rfl
  | _ :: _, _ :: _, h => congrArg (· + 1) (In2.len h.2)
  | [], _ :: _, h => h.elim
  | _ :: _, [], h => h.elim
theorem In2.frz {H W : Hp} : ∀ {bs : List Addr} {ess : List (List E)}, In2 H W bs ess → (∀ b ∈ bs, ∀ o, H b = some o → W b = some o) → EvL W (bs.map V.ref) (ess.map E.lst)
  | [], [], _, _ => rfl
  | b :: bs, es :: ess, ⟨⟨vs, h1, h2, h3⟩, h4⟩, k => ⟨_, _, rfl, ⟨b, vs, rfl, k b (List.mem_cons_self ..) _ h1, h2, h3⟩, In2.frz h4 fun c hc => k c (List.mem_cons_of_mem _ hc)⟩
  | [], _ :: _, h, _ => h.elim
  | _ :: _, [], h, _ => h.elim
theorem In2.get {H W : Hp} : ∀ {bs : List Addr} {ess : List (List E)} {i : Nat} {es : List E}, In2 H W bs ess → ess[i]? = some es → ∃ b vs, bs[i]? = some b ∧ H b = some (.lst vs) ∧ vs.length ≤ sizeLine ∧ EvL W vs es
  | b :: bs, es :: ess, 0, _, ⟨⟨vs, h1, h2, h3⟩, _⟩, h => by
    cases Option.some.inj h
    exact ⟨b, vs, rfl, h1, h2, h3⟩
  | b :: bs, es :: ess, i + 1, _, ⟨_, h4⟩, h => by
    obtain ⟨c, vs, h5, h6⟩ := In2.get h4 (i := i) (by simpa using h)
    exact ⟨c, vs, by simpa using h5, h6⟩
  | [], [], _, _, _, h => by simp at h
  | [], _ :: _, _, _, h, _ => h.elim
  | _ :: _, [], _, _, h, _ => h.elim
def SlotOk (st : Option (Addr × Addr)) (H W : Hp) : M → Option V → Prop
  | .no, _ => True
  | .sh e, x => ∃ v, x = some v ∧ Ev W v e
  | .ow es, x => ∃ q vs, x = some (.ref q) ∧ H q = some (.lst vs) ∧ vs.length ≤ sizeLine ∧ EvL W vs es
  | .od kvs, x => ∃ q ks, x = some (.ref q) ∧ H q = some (.dK ks) ∧ ks.length ≤ sizeLine ∧ EvK W ks kvs
  | .ot kvs, x => ∃ q ks, x = some (.ref q) ∧ H q = some (.dT ks) ∧ ks.length ≤ sizeLine ∧ EvT W ks kvs
  | .sto, x => ∃ p c, x = some (.ref p) ∧ st = some (p, c)
  | .pt q C dx fs, x => x = some (.ref q) ∧ ∃ fv, H q = some (.ins C dx fv) ∧ EvF W fv fs
  | .o2 q bs ess, x => x = some (.ref q) ∧ H q = some (.lst (bs.map V.ref)) ∧ bs.length ≤ sizeLine ∧ In2 H W bs ess
  | .bx b, x => ∃ v, x = some v ∧ b.P H W v
def own : M → Option V → List Addr
  | .ow _, some (.ref q) => [q]
  | .od _, some (.ref q) => [q]
  | .ot _, some (.ref q) => [q]
  | .pt _ _ _ _, some (.ref q) => [q]
  | .o2 _ bs _, some (.ref q) => q :: bs
  | .bx b, some _ => b.as
  | _, _ => []
def owns : List M → List (Option V) → List Addr
  | m :: ρ, x :: σ => own m x ++ owns ρ σ
  | _, _ => []
def Slots (st : Option (Addr × Addr)) (H W : Hp) : List M → List (Option V) → Prop
  | [], [] => True
  | m :: ρ, x :: σ => SlotOk st H W m x ∧ Slots st H W ρ σ
  | _, _ => False
section
variable {st : Option (Addr × Addr)} {H W H' W' : Hp}
theorem SlotOk.mono {m : M} {x : Option V} (h : SlotOk st H W m x) (sW : Same W W') (sH : ∀ q ∈ own m x, ∀ o, H q = some o → H' q = some o) : SlotOk st H' W' m x := by
  cases m with
  | no => trivial
  | sh e => exact h.imp fun v q => ⟨q.1, q.2.mono sW⟩
  | ow es =>
    obtain ⟨q, vs, rfl, h1, h2, h3⟩ := h
    exact ⟨q, vs, rfl, sH q (by simp [own]) _ h1, h2, h3.mono sW⟩
  | od es =>
    obtain ⟨q, vs, rfl, h1, h2, h3⟩ := h
    exact ⟨q, vs, rfl, sH q (by simp [own]) _ h1, h2, h3.mono sW⟩
  | ot es =>
    obtain ⟨q, vs, rfl, h1, h2, h3⟩ := h
    exact ⟨q, vs, rfl, sH q (by simp [own]) _ h1, h2, h3.mono sW⟩
  | sto => exact h
  | pt q C dx fs =>
    obtain ⟨rfl, fv, h1, h2⟩ := h
    exact ⟨rfl, fv, sH q (by simp [own]) _ h1, h2.mono sW⟩
  | o2 q bs ess =>
    obtain ⟨rfl, h1, h2, h3⟩ := h
    exact ⟨rfl, sH q (by simp [own]) _ h1, h2, h3.mono sW fun b hb => sH b (List.mem_cons_of_mem _ hb)⟩
  | bx b =>
    obtain ⟨v, rfl, h1⟩ := h
    exact ⟨v, rfl, b.mono _ _ _ _ _ h1 sW sH⟩
theorem Slots.mono : ∀ {ρ : List M} {σ : List (Option V)}, Slots st H W ρ σ → Same W W' → (∀ q ∈ owns ρ σ, ∀ o, H q = some o → H' q = some o) → Slots st H' W' ρ σ
  | [], [], _, _, _ => trivial
  | m :: ρ, x :: σ, h, sW, sH => ⟨h.1.mono sW fun q hq => sH q (List.mem_append_left _ hq), Slots.mono h.2 sW fun q hq => sH q (List.mem_append_right _ hq)⟩
  | [], _ :: _, h, _, _ => h.elim
  | _ :: _, [], h, _, _ => h.elim
theorem Slots.length : ∀ {ρ : List M} {σ : List (Option V)}, Slots st H W ρ σ → ρ.length = σ.length
  | [], [], _ => rfl
  | _ :: _, _ :: _, h => congrArg (· + 1) (Slots.length h.2)
  | [], _ :: _, h => h.elim
  | _ :: _, [], h => h.elim
theorem SlotOk.live {m : M} {x : Option V} (h : SlotOk st H W m x) : ∀ q ∈ own m x, H q ≠ none := by
  intro q hq
  cases m with
  | ow es =>
    obtain ⟨r, vs, rfl, h1, _⟩ := h
    rw [List.mem_singleton.mp (show q ∈ [r] from hq), h1]
    exact nofun
  | od es =>
    obtain ⟨r, vs, rfl, h1, _⟩ := h
    rw [List.mem_singleton.mp (show q ∈ [r] from hq), h1]
    exact nofun
  | ot es =>
    obtain ⟨r, vs, rfl, h1, _⟩ := h
    rw [List.mem_singleton.mp (show q ∈ [r] from hq), h1]
    exact nofun
  | pt r C dx fs =>
    obtain ⟨rfl, fv, h1, _⟩ := h
    rw [List.mem_singleton.mp (show q ∈ [r] from hq), h1]
    exact nofun
  | o2 r bs ess =>
    obtain ⟨rfl, h1, _, h3⟩ := h
    rcases List.mem_cons.mp (show q ∈ r :: bs from hq) with e | e
    · rw [e, h1]; exact nofun
    · obtain ⟨vs, h4⟩ := h3.live q e
      rw [h4]; exact nofun
  | bx b =>
    obtain ⟨v, rfl, h1⟩ := h
    obtain ⟨o, h2, _⟩ := b.live _ _ _ h1 q hq
    rw [h2]; exact nofun
  | no => cases x <;> exact absurd hq (by simp [own])
  | sh e => cases x <;> exact absurd hq (by simp [own])
  | sto => cases x <;> exact absurd hq (by simp [own])
theorem Slots.live : ∀ {ρ : List M} {σ : List (Option V)}, Slots st H W ρ σ → ∀ q ∈ owns ρ σ, H q ≠ none
  | m :: ρ, x :: σ, h, q, hq => (List.mem_append.mp hq).elim (fun a => h.1.live q a) fun a => Slots.live h.2 q a
  | [], [], _, q, hq => by simp [owns] at hq
  | [], _ :: _, h, _, _ => h.elim
  | _ :: _, [], h, _, _ => h.elim
theorem SlotOk.mut {m : M} {x : Option V} (h : SlotOk st H W m x) : ∀ q ∈ own m x, ∃ o, H q = some o ∧ Mut o := by
  intro q hq
  cases m with
  | ow es =>
    obtain ⟨r, vs, rfl, h1, _⟩ := h
    rw [List.mem_singleton.mp (show q ∈ [r] from hq)]
    exact ⟨_, h1, .inl ⟨_, rfl⟩⟩
  | od es =>
    obtain ⟨r, vs, rfl, h1, _⟩ := h
    rw [List.mem_singleton.mp (show q ∈ [r] from hq)]
    exact ⟨_, h1, .inr (.inl ⟨_, rfl⟩)⟩
  | ot es =>
    obtain ⟨r, vs, rfl, h1, _⟩ := h
    rw [List.mem_singleton.mp (show q ∈ [r] from hq)]
    exact ⟨_, h1, .inr (.inr (.inl ⟨_, rfl⟩))⟩
  | pt r C dx fs =>
    obtain ⟨rfl, fv, h1, _⟩ := h
    rw [List.mem_singleton.mp (show q ∈ [r] from hq)]
    exact ⟨_, h1, .inr (.inr (.inr (.inl ⟨_, _, _, rfl⟩)))⟩
  | o2 r bs ess =>
    obtain ⟨rfl, h1, _, h3⟩ := h
    rcases List.mem_cons.mp (show q ∈ r :: bs from hq) with e | e
    · rw [e]
      exact ⟨_, h1, .inl ⟨_, rfl⟩⟩
    · obtain ⟨vs, h4⟩ := h3.live q e
      exact ⟨_, h4, .inl ⟨_, rfl⟩⟩
  | bx b =>
    obtain ⟨v, rfl, h1⟩ := h
    exact b.live _ _ _ h1 q hq
  | no => cases x <;> exact absurd hq (by simp [own])
  | sh e => cases x <;> exact absurd hq (by simp [own])
  | sto => cases x <;> exact absurd hq (by simp [own])
theorem Slots.mut : ∀ {ρ : List M} {σ : List (Option V)}, Slots st H W ρ σ → ∀ q ∈ owns ρ σ, ∃ o, H q = some o ∧ Mut o
  | m :: ρ, x :: σ, h, q, hq => (List.mem_append.mp hq).elim (fun a => h.1.mut q a) fun a => Slots.mut h.2 q a
  | [], [], _, q, hq => by simp [owns] at hq
  | [], _ :: _, h, _, _ => h.elim
  | _ :: _, [], h, _, _ => h.elim
theorem owns_append : ∀ {ρ ρ' : List M} {σ σ' : List (Option V)}, ρ.length = σ.length → owns (ρ ++ ρ') (σ ++ σ') = owns ρ σ ++ owns ρ' σ'
  | [], _, [], _, _ => rfl
  | m :: ρ, _, x :: σ, _, h => by
    show own m x ++ owns (ρ ++ _) (σ ++ _) = (own m x ++ owns ρ σ) ++ _
    rw [owns_append (by simpa using h), List.append_assoc]
  | [], _, _ :: _, _, h => by simp at h
  | _ :: _, _, [], _, h => by simp at h
theorem Slots.append : ∀ {ρ ρ' : List M} {σ σ' : List (Option V)}, ρ.length = σ.length → (Slots st H W (ρ ++ ρ') (σ ++ σ') ↔ Slots st H W ρ σ ∧ Slots st H W ρ' σ')
  | [], _, [], _, _ => ⟨fun h => ⟨trivial, h⟩, fun h => h.2⟩
  | m :: ρ, _, x :: σ, _, h => by
    show SlotOk st H W m x ∧ Slots st H W (ρ ++ _) (σ ++ _) ↔ (SlotOk st H W m x ∧ Slots st H W ρ σ) ∧ _
    rw [Slots.append (by simpa using h), and_assoc]
  | [], _, _ :: _, _, h => by simp at h
  | _ :: _, _, [], _, h => by simp at h
end
/-- where a def stands: the heap at its beginning, what others own, the law's store -/
structure Bs where
  H0 : Hp
  O1 : List Addr
  st : Option (Addr × Addr)
structure Rel (B : Bs) (ρ : List M) (σ : List (Option V)) (H : Hp) : Prop where
  fr : ∀ b o, (∀ c, B.st ≠ some (b, c)) → B.H0 b = some o → H b = some o
  sto : ∀ p c, B.st = some (p, c) → Sto H p c ∧ p ∈ B.O1 ∧ B.H0 p ≠ none ∧ B.H0 c ≠ none
  ex : ∀ b ∈ B.O1, ∃ o, B.H0 b = some o ∧ Mut o
  new : ∀ q ∈ owns ρ σ, B.H0 q = none
  nd : (owns ρ σ).Nodup
  sl : Slots B.st H (wos (owns ρ σ ++ B.O1) H) ρ σ
section
variable {B : Bs} {ρ ρ' : List M} {σ σ' : List (Option V)} {H H' : Hp} {m : M} {x : Option V}
theorem Rel.dj (R : Rel B ρ σ H) : ∀ q ∈ owns ρ σ, q ∉ B.O1 := fun q h1 h2 => by
  obtain ⟨o, e, _⟩ := R.ex q h2
  rw [R.new q h1] at e; cases e
theorem Rel.notp (R : Rel B ρ σ H) {q : Addr} (h : q ∈ owns ρ σ) : ∀ c, B.st ≠ some (q, c) := fun c e => (R.sto q c e).2.2.1 (R.new q h)
theorem Rel.aliveM (R : Rel B ρ σ H) : ∀ b ∈ B.O1, ∃ o, H b = some o ∧ Mut o := fun b hb => by
  by_cases h : ∃ c, B.st = some (b, c)
  · obtain ⟨c, h⟩ := h
    obtain ⟨_, _, _, _, _, h1, _⟩ := (R.sto b c h).1
    exact ⟨_, h1, .inl ⟨_, rfl⟩⟩
  · obtain ⟨o, e0, hm⟩ := R.ex b hb
    exact ⟨o, R.fr b o (fun c z => h ⟨c, z⟩) e0, hm⟩
theorem Rel.alive (R : Rel B ρ σ H) : ∀ b ∈ B.O1, H b ≠ none := fun b hb => by
  obtain ⟨o, e, _⟩ := R.aliveM b hb
  rw [e]; exact nofun
theorem Rel.fresh (R : Rel B ρ σ H) {q : Addr} (h : H q = none) : q ∉ owns ρ σ ++ B.O1 ∧ B.H0 q = none := by
  have h1 : q ∉ owns ρ σ ++ B.O1 := fun hm => (List.mem_append.mp hm).elim (fun a => R.sl.live q a h) fun a => R.alive q a h
  refine ⟨h1, ?_⟩
  cases e : B.H0 q with
  | none => rfl
  | some o =>
    by_cases hp : ∃ c, B.st = some (q, c)
    · obtain ⟨c, hp⟩ := hp
      exact absurd (List.mem_append_right _ (R.sto q c hp).2.1) h1
    · rw [R.fr q o (fun c z => hp ⟨c, z⟩) e] at h; cases h
/-- the heap grew -/
theorem Rel.grow (R : Rel B ρ σ H) (s : Same H H') : Rel B ρ σ H' where
  fr := fun b o h e => s _ _ (R.fr b o h e)
  sto := fun p c e => ⟨(R.sto p c e).1.keep s, (R.sto p c e).2⟩
  ex := R.ex
  new := R.new
  nd := R.nd
  sl := R.sl.mono (wos_same fun b o h e => ⟨h, s _ _ e⟩) fun q _ o e => s _ _ e
theorem Rel.push (R : Rel B ρ σ H) {v : V} {e : E} (h : Ev (wos (owns ρ σ ++ B.O1) H) v e) : Rel B (.sh e :: ρ) (some v :: σ) H where
  fr := R.fr
  sto := R.sto
  ex := R.ex
  new := R.new
  nd := R.nd
  sl := ⟨⟨v, rfl, h⟩, R.sl⟩
theorem Rel.pushNo (R : Rel B ρ σ H) (x : Option V) : Rel B (.no :: ρ) (x :: σ) H where
  fr := R.fr
  sto := R.sto
  ex := R.ex
  new := R.new
  nd := R.nd
  sl := ⟨trivial, R.sl⟩
/-- a new list that no one else holds -/
theorem Rel.pushL (R : Rel B ρ σ H) {q : Addr} {vs : List V} {es : List E} (hq : H q = none) (hl : vs.length ≤ sizeLine) (h : EvL (wos (owns ρ σ ++ B.O1) H) vs es) : Rel B (.ow es :: ρ) (some (.ref q) :: σ) (upd H q (.lst vs)) := by
  obtain ⟨h1, h2⟩ := R.fresh hq
  have s : Same H (upd H q (.lst vs)) := same_new hq
  have sw : Same (wos (owns ρ σ ++ B.O1) H) (wos (q :: owns ρ σ ++ B.O1) (upd H q (.lst vs))) := wos_same fun b o hb e => ⟨fun hm => (List.mem_cons.mp hm).elim (fun z => by rw [z, hq] at e; cases e) hb, s _ _ e⟩
  exact {
    fr := fun b o h e => s _ _ (R.fr b o h e)
    sto := fun p c e => ⟨(R.sto p c e).1.keep s, (R.sto p c e).2⟩
    ex := R.ex
    new := fun a ha => (List.mem_cons.mp ha).elim (fun z => by rw [z]; exact h2) (R.new a)
    nd := List.nodup_cons.mpr ⟨fun z => h1 (List.mem_append_left _ z), R.nd⟩
    sl := ⟨⟨q, vs, rfl, upd_same, hl, h.mono sw⟩, R.sl.mono sw fun a _ o e => s _ _ e⟩ }
theorem Rel.pushD (R : Rel B ρ σ H) {q : Addr} {vs : List (L2.Key × V)} {es : List (L2.Key × E)} (hq : H q = none) (hl : vs.length ≤ sizeLine) (h : EvK (wos (owns ρ σ ++ B.O1) H) vs es) : Rel B (.od es :: ρ) (some (.ref q) :: σ) (upd H q (.dK vs)) := by
  obtain ⟨h1, h2⟩ := R.fresh hq
  have s : Same H (upd H q (.dK vs)) := same_new hq
  have sw : Same (wos (owns ρ σ ++ B.O1) H) (wos (q :: owns ρ σ ++ B.O1) (upd H q (.dK vs))) := wos_same fun b o hb e => ⟨fun hm => (List.mem_cons.mp hm).elim (fun z => by rw [z, hq] at e; cases e) hb, s _ _ e⟩
  exact {
    fr := fun b o h e => s _ _ (R.fr b o h e)
    sto := fun p c e => ⟨(R.sto p c e).1.keep s, (R.sto p c e).2⟩
    ex := R.ex
    new := fun a ha => (List.mem_cons.mp ha).elim (fun z => by rw [z]; exact h2) (R.new a)
    nd := List.nodup_cons.mpr ⟨fun z => h1 (List.mem_append_left _ z), R.nd⟩
    sl := ⟨⟨q, vs, rfl, upd_same, hl, h.mono sw⟩, R.sl.mono sw fun a _ o e => s _ _ e⟩ }
theorem Rel.pushT (R : Rel B ρ σ H) {q : Addr} {vs : List (List L2.Key × V)} {es : List (List L2.Key × E)} (hq : H q = none) (hl : vs.length ≤ sizeLine) (h : EvT (wos (owns ρ σ ++ B.O1) H) vs es) : Rel B (.ot es :: ρ) (some (.ref q) :: σ) (upd H q (.dT vs)) := by
  obtain ⟨h1, h2⟩ := R.fresh hq
  have s : Same H (upd H q (.dT vs)) := same_new hq
  have sw : Same (wos (owns ρ σ ++ B.O1) H) (wos (q :: owns ρ σ ++ B.O1) (upd H q (.dT vs))) := wos_same fun b o hb e => ⟨fun hm => (List.mem_cons.mp hm).elim (fun z => by rw [z, hq] at e; cases e) hb, s _ _ e⟩
  exact {
    fr := fun b o h e => s _ _ (R.fr b o h e)
    sto := fun p c e => ⟨(R.sto p c e).1.keep s, (R.sto p c e).2⟩
    ex := R.ex
    new := fun a ha => (List.mem_cons.mp ha).elim (fun z => by rw [z]; exact h2) (R.new a)
    nd := List.nodup_cons.mpr ⟨fun z => h1 (List.mem_append_left _ z), R.nd⟩
    sl := ⟨⟨q, vs, rfl, upd_same, hl, h.mono sw⟩, R.sl.mono sw fun a _ o e => s _ _ e⟩ }
/-- weaker knowledge: fewer things owned, the rest as before -/
theorem Rel.of {ρ2 : List M} {σ2 : List (Option V)} (R : Rel B ρ σ H) (nd : (owns ρ2 σ2).Nodup) (sub : ∀ q ∈ owns ρ2 σ2, q ∈ owns ρ σ) (sl : Slots B.st H (wos (owns ρ2 σ2 ++ B.O1) H) ρ2 σ2) : Rel B ρ2 σ2 H :=
  ⟨R.fr, R.sto, R.ex, fun q h => R.new q (sub q h), nd, sl⟩
theorem wos_less {O O' : List Addr} {H : Hp} (h : ∀ b ∈ O', b ∈ O) : Same (wos O H) (wos O' H) := wos_same fun b _ hb e => ⟨fun z => hb (h b z), e⟩
theorem Rel.tail (R : Rel B (m :: ρ) (x :: σ) H) : Rel B ρ σ H :=
  R.of (List.nodup_append.mp R.nd).2.1 (fun q h => List.mem_append_right _ h) (R.sl.2.mono (wos_less fun b hb => by
    rcases List.mem_append.mp hb with h | h
    · exact List.mem_append_left _ (List.mem_append_right _ h)
    · exact List.mem_append_right _ h) fun _ _ _ e => e)
/-- what was owned is one's own no longer -/
def M.frz : M → M
  | .ow es => .sh (.lst es)
  | .od es => .sh (.dic es)
  | .ot es => .sh (.dit es)
  | .pt _ C _ fs => .sh (obE C fs)
  | .o2 _ _ ess => .sh (.lst (ess.map E.lst))
  | .bx b => .sh b.e
  | m => m
theorem own_frz : ∀ (m : M) (x : Option V), own m.frz x = []
  | .no, x => by cases x <;> rfl
  | .sh _, x => by cases x <;> rfl
  | .ow _, x => by cases x <;> rfl
  | .od _, x => by cases x <;> rfl
  | .ot _, x => by cases x <;> rfl
  | .sto, x => by cases x <;> rfl
  | .pt _ _ _ _, x => by cases x <;> rfl
  | .o2 _ _ _, x => by cases x <;> rfl
  | .bx _, x => by cases x <;> rfl
theorem SlotOk.frz {st : Option (Addr × Addr)} {W : Hp} (h : SlotOk st H W m x) (hw : ∀ q ∈ own m x, ∀ o, H q = some o → W q = some o) : SlotOk st H W m.frz x := by
  cases m with
  | ow es =>
    obtain ⟨q, vs, rfl, h1, h2, h3⟩ := h
    exact ⟨_, rfl, q, vs, rfl, hw q (by simp [own]) _ h1, h2, h3⟩
  | od es =>
    obtain ⟨q, vs, rfl, h1, h2, h3⟩ := h
    exact ⟨_, rfl, q, vs, rfl, hw q (by simp [own]) _ h1, h2, h3⟩
  | ot es =>
    obtain ⟨q, vs, rfl, h1, h2, h3⟩ := h
    exact ⟨_, rfl, q, vs, rfl, hw q (by simp [own]) _ h1, h2, h3⟩
  | pt q C dx fs =>
    obtain ⟨rfl, fv, h1, h2⟩ := h
    have h3 := hw q (by simp [own]) _ h1
    exact ⟨_, rfl, q, dx, fv, rfl, h3, h2⟩
  | o2 q bs ess =>
    obtain ⟨rfl, h1, h2, h3⟩ := h
    exact ⟨_, rfl, q, bs.map V.ref, rfl, hw q (by simp [own]) _ h1, by rw [List.length_map]; exact h2, h3.frz fun b hb => hw b (List.mem_cons_of_mem _ hb)⟩
  | bx b =>
    obtain ⟨v, rfl, h1⟩ := h
    exact ⟨v, rfl, b.frz _ _ _ h1 hw⟩
  | _ => exact h
theorem Rel.frz (R : Rel B (m :: ρ) (x :: σ) H) : Rel B (m.frz :: ρ) (x :: σ) H := by
  have nd := List.nodup_append.mp R.nd
  have sw : Same (wos (owns (m :: ρ) (x :: σ) ++ B.O1) H) (wos (owns ρ σ ++ B.O1) H) := wos_less fun b hb => by
    rcases List.mem_append.mp hb with h | h
    · exact List.mem_append_left _ (List.mem_append_right _ h)
    · exact List.mem_append_right _ h
  have eo : owns (m.frz :: ρ) (x :: σ) = owns ρ σ := by
    show own m.frz x ++ _ = _
    rw [own_frz]; rfl
  refine R.of (by rw [eo]; exact nd.2.1) (fun q h => List.mem_append_right _ (by rw [← eo]; exact h)) ?_
  rw [eo]
  refine ⟨(R.sl.1.mono sw fun _ _ _ e => e).frz fun q hq o e => ?_, R.sl.2.mono sw fun _ _ _ e => e⟩
  rw [wos_out]
  · exact e
  · intro hm
    rcases List.mem_append.mp hm with h | h
    · exact nd.2.2 q hq q h rfl
    · exact R.dj q (List.mem_append_left _ hq) h

theorem owns_set : ∀ {ρ : List M} {σ : List (Option V)} (i : Nat) {m : M} {x : Option V}, (own m x ++ owns ρ σ).Nodup → (owns (ρ.set i m) (σ.set i x)).Nodup ∧ ∀ q ∈ owns (ρ.set i m) (σ.set i x), q ∈ own m x ++ owns ρ σ
  | [], σ, _, _, _, _ => ⟨List.nodup_nil, fun q h => absurd h (by simp [owns])⟩
  | _ :: _, [], i, _, _, _ => by cases i <;> exact ⟨List.nodup_nil, fun q h => absurd h (by simp [owns])⟩
  | l :: ρ, y :: σ, 0, m, x, h => by
    have h' := List.nodup_append.mp h
    have h2 := List.nodup_append.mp (show (own l y ++ owns ρ σ).Nodup from h'.2.1)
    refine ⟨List.nodup_append.mpr ⟨h'.1, h2.2.1, fun a ha b hb => h'.2.2 a ha b (List.mem_append_right _ hb)⟩, fun q hq => ?_⟩
    rcases List.mem_append.mp (show q ∈ own m x ++ owns ρ σ from hq) with h | h
    · exact List.mem_append_left _ h
    · exact List.mem_append_right _ (List.mem_append_right _ h)
  | l :: ρ, y :: σ, i + 1, m, x, h => by
    have h' := List.nodup_append.mp h
    have h2 := List.nodup_append.mp (show (own l y ++ owns ρ σ).Nodup from h'.2.1)
    have ih := owns_set (ρ := ρ) (σ := σ) i (m := m) (x := x) (List.nodup_append.mpr ⟨h'.1, h2.2.1, fun a ha b hb => h'.2.2 a ha b (List.mem_append_right _ hb)⟩)
    refine ⟨List.nodup_append.mpr ⟨h2.1, ih.1, fun a ha b hb => ?_⟩, fun q hq => ?_⟩
    · rcases List.mem_append.mp (ih.2 b hb) with z | z
      · exact (h'.2.2 b z a (List.mem_append_left _ ha)).symm
      · exact h2.2.2 a ha b z
    · rcases List.mem_append.mp (show q ∈ own l y ++ owns (ρ.set i m) (σ.set i x) from hq) with h | h
      · exact List.mem_append_right _ (List.mem_append_left _ h)
      · rcases List.mem_append.mp (ih.2 q h) with z | z
        · exact List.mem_append_left _ z
        · exact List.mem_append_right _ (List.mem_append_right _ z)
theorem Slots.set {st : Option (Addr × Addr)} {H W : Hp} : ∀ {ρ : List M} {σ : List (Option V)} (i : Nat) {m : M} {x : Option V}, SlotOk st H W m x → Slots st H W ρ σ → Slots st H W (ρ.set i m) (σ.set i x)
  | [], [], _, _, _, _, _ => trivial
  | _ :: _, _ :: _, 0, _, _, a, h => ⟨a, h.2⟩
  | _ :: _, _ :: _, i + 1, _, _, a, h => ⟨h.1, Slots.set i a h.2⟩
  | [], _ :: _, _, _, _, _, h => h.elim
  | _ :: _, [], _, _, _, _, h => h.elim
/-- the value in front goes to a slot -/
theorem Rel.set (R : Rel B (m :: ρ) (x :: σ) H) (i : Nat) : Rel B (ρ.set i m) (σ.set i x) H := by
  have o := owns_set i (m := m) (x := x) (ρ := ρ) (σ := σ) R.nd
  have sw : Same (wos (owns (m :: ρ) (x :: σ) ++ B.O1) H) (wos (owns (ρ.set i m) (σ.set i x) ++ B.O1) H) := wos_less fun b hb => by
    rcases List.mem_append.mp hb with h | h
    · exact List.mem_append_left _ (o.2 b h)
    · exact List.mem_append_right _ h
  exact R.of o.1 o.2 (Slots.set i (R.sl.1.mono sw fun _ _ _ e => e) (R.sl.2.mono sw fun _ _ _ e => e))
theorem own_at : ∀ {ρ : List M} {σ : List (Option V)} {i : Nat} {m : M} {x : Option V}, ρ[i]? = some m → σ[i]? = some x → ∀ q ∈ own m x, q ∈ owns ρ σ
  | _ :: _, _ :: _, 0, _, _, h, k, q, hq => by
    cases Option.some.inj h
    cases Option.some.inj k
    exact List.mem_append_left _ hq
  | _ :: ρ, _ :: σ, i + 1, _, _, h, k, q, hq => List.mem_append_right _ (own_at (ρ := ρ) (σ := σ) (i := i) (by simpa using h) (by simpa using k) q hq)
  | [], _, _, _, _, h, _, _, _ => by simp at h
  | _ :: _, [], _, _, _, _, k, _, _ => by simp at k
theorem Slots.at {st : Option (Addr × Addr)} {H W : Hp} : ∀ {ρ : List M} {σ : List (Option V)} {i : Nat} {m : M}, Slots st H W ρ σ → ρ[i]? = some m → ∃ x, σ[i]? = some x ∧ SlotOk st H W m x
  | _ :: _, x :: _, 0, _, h, e => by
    cases Option.some.inj e
    exact ⟨x, rfl, h.1⟩
  | _ :: ρ, _ :: σ, i + 1, _, h, e => by
    obtain ⟨x, h1, h2⟩ := Slots.at (ρ := ρ) (σ := σ) (i := i) h.2 (by simpa using e)
    exact ⟨x, by simpa using h1, h2⟩
  | [], _, _, _, _, e => by simp at e
  | _ :: _, [], _, _, h, _ => h.elim
theorem set_self {α : Type} : ∀ {l : List α} {i : Nat} {x : α}, l[i]? = some x → l.set i x = l
  | [], _, _, h => by simp at h
  | _ :: _, 0, _, h => by cases Option.some.inj h; rfl
  | _ :: l, i + 1, _, h => congrArg (List.cons _) (set_self (l := l) (i := i) (by simpa using h))
/-- a slot's content is taken out, in front -/
theorem owns_take : ∀ {ρ : List M} {σ : List (Option V)} {i : Nat} {m : M} {x : Option V}, ρ[i]? = some m → σ[i]? = some x → (own m x ++ owns (ρ.set i .no) σ).Perm (owns ρ σ)
  | m' :: _, y :: _, 0, _, _, h, k => by
    cases Option.some.inj h
    cases Option.some.inj k
    show (own m' y ++ (own .no y ++ _)).Perm _
    rw [show own .no y = [] by cases y <;> rfl]
    exact List.Perm.refl _
  | l :: ρ, y :: σ, i + 1, m, x, h, k => by
    have ih := owns_take (ρ := ρ) (σ := σ) (i := i) (m := m) (x := x) (by simpa using h) (by simpa using k)
    show (own m x ++ (own l y ++ owns (ρ.set i .no) σ)).Perm (own l y ++ owns ρ σ)
    rw [← List.append_assoc]
    refine (List.perm_append_comm.append_right _).trans ?_
    rw [List.append_assoc]
    exact ih.append_left _
  | [], _, _, _, _, h, _ => by simp at h
  | _ :: _, [], _, _, _, _, k => by simp at k
theorem wos_perm {O O' : List Addr} {H : Hp} (h : O'.Perm O) : Same (wos O H) (wos O' H) := wos_less fun b hb => h.mem_iff.mp hb
theorem Slots.setNo {st : Option (Addr × Addr)} {H W : Hp} : ∀ {ρ : List M} {σ : List (Option V)} (i : Nat), Slots st H W ρ σ → Slots st H W (ρ.set i .no) σ
  | [], [], _, _ => trivial
  | _ :: _, _ :: _, 0, h => ⟨trivial, h.2⟩
  | _ :: _, _ :: _, i + 1, h => ⟨h.1, Slots.setNo i h.2⟩
  | [], _ :: _, _, h => h.elim
  | _ :: _, [], _, h => h.elim
theorem Rel.take (R : Rel B ρ σ H) {i : Nat} (h : ρ[i]? = some m) : ∃ x, σ[i]? = some x ∧ Rel B (m :: ρ.set i .no) (x :: σ) H := by
  obtain ⟨x, hx, hs⟩ := R.sl.at h
  have pm : (owns (m :: ρ.set i .no) (x :: σ)).Perm (owns ρ σ) := owns_take h hx
  have sw : Same (wos (owns ρ σ ++ B.O1) H) (wos (owns (m :: ρ.set i .no) (x :: σ) ++ B.O1) H) := wos_perm (pm.append_right _)
  exact ⟨x, hx, R.of (pm.nodup_iff.mpr R.nd) (fun q hq => pm.mem_iff.mp hq) ⟨hs.mono sw fun _ _ _ e => e, (R.sl.setNo i).mono sw fun _ _ _ e => e⟩⟩
/-- a slot's value is read: what was owned is shared from then on -/
theorem Rel.read (R : Rel B ρ σ H) {i : Nat} {e : E} (h : ρ[i]? = some (.sh e)) : ∃ v, σ[i]? = some (some v) ∧ Rel B (.sh e :: ρ) (some v :: σ) H := by
  obtain ⟨x, hx, v, rfl, hv⟩ := R.sl.at h
  exact ⟨v, hx, R.push hv⟩
theorem Rel.dup (R : Rel B (m :: ρ) (x :: σ) H) : Rel B (m.frz :: m.frz :: ρ) (x :: x :: σ) H := by
  have R2 := R.frz
  have eo : owns (m.frz :: m.frz :: ρ) (x :: x :: σ) = owns (m.frz :: ρ) (x :: σ) := by
    show own m.frz x ++ (own m.frz x ++ _) = own m.frz x ++ _
    rw [own_frz]; rfl
  exact R2.of (by rw [eo]; exact R2.nd) (fun q h => by rw [← eo]; exact h) (by rw [eo]; exact ⟨R2.sl.1, R2.sl⟩)
theorem Rel.readO (R : Rel B ρ σ H) {i : Nat} (h : ρ[i]? = some m) (hm : m ≠ .no) : ∃ v, σ[i]? = some (some v) ∧ Rel B (m.frz :: ρ.set i m.frz) (some v :: σ) H := by
  obtain ⟨x, hx, R2⟩ := R.take h
  have hv : ∃ v, x = some v := by
    have := R2.sl.1
    cases m with
    | no => exact absurd rfl hm
    | sh e => exact this.imp fun v q => q.1
    | ow e => obtain ⟨q, _, z, _⟩ := this; exact ⟨_, z⟩
    | od e => obtain ⟨q, _, z, _⟩ := this; exact ⟨_, z⟩
    | ot e => obtain ⟨q, _, z, _⟩ := this; exact ⟨_, z⟩
    | sto => obtain ⟨q, _, z, _⟩ := this; exact ⟨_, z⟩
    | pt q C dx fs => obtain ⟨z, _⟩ := this; exact ⟨_, z⟩
    | o2 q bs ess => obtain ⟨z, _⟩ := this; exact ⟨_, z⟩
    | bx b => obtain ⟨v, z, _⟩ := this; exact ⟨v, z⟩
  obtain ⟨v, rfl⟩ := hv
  refine ⟨v, hx, ?_⟩
  have R3 := R2.dup.set (i + 1)
  have e1 : (M.frz m :: ρ.set i .no).set (i + 1) m.frz = m.frz :: ρ.set i m.frz := by
    show m.frz :: (ρ.set i .no).set i m.frz = _
    rw [List.set_set]
  have e2 : (some v :: σ).set (i + 1) (some v) = some v :: σ := by
    show some v :: σ.set i (some v) = _
    rw [set_self hx]
  rw [e1, e2] at R3
  exact R3
/-- an owned slot is written -/
theorem Rel.write (R : Rel B (m :: ρ) (x :: σ) H) {q : Addr} (hq : q ∈ own m x) {o : HO} {m' : M} (ho : own m' x = own m x) (hs : SlotOk B.st (upd H q o) (wos (owns (m :: ρ) (x :: σ) ++ B.O1) H) m' x) : Rel B (m' :: ρ) (x :: σ) (upd H q o) := by
  have hO : q ∈ owns (m :: ρ) (x :: σ) := List.mem_append_left _ hq
  have h0 := R.new q hO
  have np := R.notp hO
  have eo : owns (m' :: ρ) (x :: σ) = owns (m :: ρ) (x :: σ) := by
    show own m' x ++ _ = own m x ++ _
    rw [ho]
  have sw : Same (wos (owns (m :: ρ) (x :: σ) ++ B.O1) H) (wos (owns (m' :: ρ) (x :: σ) ++ B.O1) (upd H q o)) := by
    rw [eo]
    exact wos_same fun b u hb e => ⟨hb, (upd_ne fun z => hb (List.mem_append_left _ (by rw [z]; exact hO))).trans e⟩
  exact {
    fr := fun b u h e => (upd_ne fun z => by rw [z, h0] at e; cases e).trans (R.fr b u h e)
    sto := fun p c e => by
      obtain ⟨h1, h2, h3, h4⟩ := R.sto p c e
      exact ⟨h1.mut (fun z => np c (by rw [z]; exact e)) (fun z => h4 (by rw [← z]; exact h0)), h2, h3, h4⟩
    ex := R.ex
    new := fun a ha => R.new a (by rw [← eo]; exact ha)
    nd := by rw [eo]; exact R.nd
    sl := ⟨hs.mono sw fun _ _ _ e => e, R.sl.2.mono sw fun a ha u e => (upd_ne fun z => (List.nodup_append.mp R.nd).2.2 q hq a ha z.symm).trans e⟩ }
/-- the other slots are put aside while the first ones are at work -/
def Bs.hide (B : Bs) (ρ : List M) (σ : List (Option V)) (ρf : List M) (σf : List (Option V)) (H : Hp) : Bs := ⟨wos (owns ρ σ) H, B.O1 ++ owns ρf σf, B.st⟩
theorem Rel.hide {ρf : List M} {σf : List (Option V)} (R : Rel B (ρf ++ ρ) (σf ++ σ) H) (hl : ρf.length = σf.length) : Rel (B.hide ρ σ ρf σf H) ρ σ H := by
  have eo : owns (ρf ++ ρ) (σf ++ σ) = owns ρf σf ++ owns ρ σ := owns_append hl
  have nd := List.nodup_append.mp (eo ▸ R.nd)
  have sl := (Slots.append hl).mp R.sl
  have hin : ∀ q ∈ owns ρ σ, q ∈ owns (ρf ++ ρ) (σf ++ σ) := fun q h => by rw [eo]; exact List.mem_append_right _ h
  have hinf : ∀ q ∈ owns ρf σf, q ∈ owns (ρf ++ ρ) (σf ++ σ) := fun q h => by rw [eo]; exact List.mem_append_left _ h
  have wn : ∀ {b : Addr}, b ∉ owns ρ σ → H b ≠ none → wos (owns ρ σ) H b ≠ none := fun h1 h2 => by rw [wos_out h1]; exact h2
  exact {
    fr := fun b o _ e => (wos_some e).2
    sto := fun p c e => by
      obtain ⟨h1, h2, h3, h4⟩ := R.sto p c e
      have hp : H p ≠ none := R.alive p h2
      have hc : H c ≠ none := by
        obtain ⟨_, _, _, _, _, _, z, _⟩ := h1
        rw [z]; exact nofun
      exact ⟨h1, List.mem_append_left _ h2, wn (fun z => h3 (R.new p (hin p z))) hp, wn (fun z => h4 (R.new c (hin c z))) hc⟩
    ex := fun b hb => (List.mem_append.mp hb).elim (fun h => by
        obtain ⟨o, e, m⟩ := R.aliveM b h
        exact ⟨o, (wos_out (fun z => R.dj b (hin b z) h)).trans e, m⟩) fun h => by
        obtain ⟨o, e, m⟩ := R.sl.mut b (hinf b h)
        exact ⟨o, (wos_out (fun z => nd.2.2 b h b z rfl)).trans e, m⟩
    new := fun q hq => wos_in hq
    nd := nd.2.1
    sl := sl.2.mono (wos_less fun b hb => by
      rcases List.mem_append.mp hb with h | h
      · exact List.mem_append_left _ (hin b h)
      · exact (List.mem_append.mp h).elim (fun z => List.mem_append_right _ z) fun z => List.mem_append_left _ (hinf b z)) fun _ _ _ e => e }
theorem Rel.unhide {ρf : List M} {σf : List (Option V)} (R : Rel B (ρf ++ ρ) (σf ++ σ) H) (hl : ρf.length = σf.length) (R' : Rel (B.hide ρ σ ρf σf H) ρ' σ' H') : Rel B (ρf ++ ρ') (σf ++ σ') H' := by
  have eo : owns (ρf ++ ρ) (σf ++ σ) = owns ρf σf ++ owns ρ σ := owns_append hl
  have eo' : owns (ρf ++ ρ') (σf ++ σ') = owns ρf σf ++ owns ρ' σ' := owns_append hl
  have nd := List.nodup_append.mp (eo ▸ R.nd)
  have sl := (Slots.append hl).mp R.sl
  have hin : ∀ q ∈ owns ρ σ, q ∈ owns (ρf ++ ρ) (σf ++ σ) := fun q h => by rw [eo]; exact List.mem_append_right _ h
  have hinf : ∀ q ∈ owns ρf σf, q ∈ owns (ρf ++ ρ) (σf ++ σ) := fun q h => by rw [eo]; exact List.mem_append_left _ h
  have kp : ∀ b o, (∀ c, B.st ≠ some (b, c)) → b ∉ owns ρ σ → H b = some o → H' b = some o := fun b o h1 h2 e => R'.fr b o h1 (by show wos (owns ρ σ) H b = some o; rw [wos_out h2]; exact e)
  have new' : ∀ q ∈ owns ρ' σ', B.H0 q = none := fun q hq => by
    have h := R'.new q hq
    by_cases z : q ∈ owns ρ σ
    · exact R.new q (hin q z)
    · have e : H q = none := by
        have h' : wos (owns ρ σ) H q = none := h
        rwa [wos_out z] at h'
      exact (R.fresh e).2
  have sw : Same (wos (owns (ρf ++ ρ) (σf ++ σ) ++ B.O1) H) (wos (owns (ρf ++ ρ') (σf ++ σ') ++ B.O1) H') := wos_same fun b o hb e => by
    have n1 : b ∉ owns ρ σ := fun z => hb (List.mem_append_left _ (hin b z))
    have n2 : b ∉ B.O1 := fun z => hb (List.mem_append_right _ z)
    refine ⟨fun hm => ?_, kp b o (fun c z => n2 (R.sto b c z).2.1) n1 e⟩
    rcases List.mem_append.mp hm with h | h
    · rw [eo'] at h
      rcases List.mem_append.mp h with h | h
      · exact hb (List.mem_append_left _ (hinf b h))
      · have h' : wos (owns ρ σ) H b = none := R'.new b h
        rw [wos_out n1, e] at h'
        cases h'
    · exact n2 h
  exact {
    fr := fun b o h e => kp b o h (fun z => by rw [R.new b (hin b z)] at e; cases e) (R.fr b o h e)
    sto := fun p c e => ⟨(R'.sto p c e).1, (R.sto p c e).2⟩
    ex := R.ex
    new := fun q hq => by
      rw [eo'] at hq
      rcases List.mem_append.mp hq with h | h
      · exact R.new q (hinf q h)
      · exact new' q h
    nd := by
      rw [eo']
      exact List.nodup_append.mpr ⟨nd.1, R'.nd, fun a ha b hb z => R'.dj b hb (List.mem_append_right _ (by rw [← z]; exact ha))⟩
    sl := (Slots.append hl).mpr ⟨sl.1.mono sw fun q hq o e => kp q o (R.notp (hinf q hq)) (fun z => nd.2.2 q hq q z rfl) e, R'.sl.mono (wos_less fun b hb => by
      rcases List.mem_append.mp hb with h | h
      · rw [eo'] at h
        rcases List.mem_append.mp h with h | h
        · exact List.mem_append_right _ (List.mem_append_right _ h)
        · exact List.mem_append_left _ h
      · exact List.mem_append_right _ (List.mem_append_left _ h)) fun _ _ _ e => e⟩ }
end
end Pl

set_option Elab.async false
set_option linter.all false
set_option maxRecDepth 100000
set_option maxHeartbeats 4000000
/-! Pb: readings over values seen whole. -/
namespace Pl
open PySem L2 Gx PySem.Spec PyProof.Rows
abbrev Env := List M
/-- what an exception carries -/
inductive XD where
  | none | one (f : Str) (e : E)
def XDat (B : Bs) (ρ : Env) (σ : L2.St) (H : Hp) : Option Addr → XD → Prop
  | none, .none => True
  | some d, .one f e => ∃ v, H d = some (.xd [(f, v)]) ∧ Ev (wos (owns ρ σ ++ B.O1) H) v e
  | _, _ => False
structure XC where
  W : WX
  Qx : Env → Value → XD → Prop
  /-- the own dict of a caught exception, what it holds -/
  pin : Option (Addr × Str × E) := none
structure XOk (B : Bs) (X : XC) : Prop where
  ex : ∀ ρ σ H cls d xd, Rel B ρ σ H → XDat B ρ σ H d xd → X.Qx ρ cls xd → X.W cls d σ H
  pn : ∀ dd f e, X.pin = some (dd, f, e) → ∃ v, B.H0 dd = some (.xd [(f, v)]) ∧ (∀ c, B.st ≠ some (dd, c)) ∧ Ev (wos B.O1 B.H0) v e
theorem XDat.mono {B B' : Bs} {ρ ρ' : Env} {σ σ' : L2.St} {H : Hp} {d : Option Addr} {xd : XD} (h : XDat B ρ σ H d xd) (k : ∀ b ∈ owns ρ' σ' ++ B'.O1, b ∈ owns ρ σ ++ B.O1) : XDat B' ρ' σ' H d xd := by
  cases d <;> cases xd <;> first
    | exact h
    | exact h.imp fun v q => ⟨q.1, q.2.mono (wos_less k)⟩
section
variable {B : Bs} {X : XC} {ρ ρ' ρf : Env} {σ σ' σf : L2.St} {H H' : Hp}
theorem Rel.tails : ∀ {ρf : Env} {σf : L2.St}, ρf.length = σf.length → Rel B (ρf ++ ρ) (σf ++ σ) H → Rel B ρ σ H
  | [], [], _, R => R
  | _ :: ρf, _ :: σf, hl, R => Rel.tails (ρf := ρf) (σf := σf) (by simpa using hl) R.tail
  | [], _ :: _, hl, _ => by simp at hl
  | _ :: _, [], hl, _ => by simp at hl
theorem XOk.hide (x : XOk B X) (R : Rel B (ρf ++ ρ) (σf ++ σ) H) (hl : ρf.length = σf.length) : XOk (B.hide ρ σ ρf σf H) X where
  ex := fun ρ' σ' H' cls d xd R' hd q => x.ex ρ' σ' H' cls d xd (Rel.tails hl (R.unhide hl R')) (hd.mono fun b hb => by
    rcases List.mem_append.mp hb with h | h
    · exact List.mem_append_left _ h
    · exact List.mem_append_right _ (List.mem_append_left _ h)) q
  pn := fun dd f e hp => by
    obtain ⟨v, h1, h2, h3⟩ := x.pn dd f e hp
    have ho : ∀ {b : Addr} {o : HO}, B.H0 b = some o → b ∉ owns ρ σ := fun hb z => by
      rw [R.new _ (by rw [owns_append hl]; exact List.mem_append_right _ z)] at hb
      cases hb
    have hf : ∀ {b : Addr} {o : HO}, B.H0 b = some o → b ∉ owns ρf σf := fun hb z => by
      rw [R.new _ (by rw [owns_append hl]; exact List.mem_append_left _ z)] at hb
      cases hb
    refine ⟨v, by show wos (owns ρ σ) H dd = _; rw [wos_out (ho h1)]; exact R.fr dd _ h2 h1, h2, h3.mono (wos_same fun b o hb e => ?_)⟩
    refine ⟨fun z => (List.mem_append.mp z).elim hb (hf e), ?_⟩
    show wos (owns ρ σ) H b = _
    rw [wos_out (ho e)]
    exact R.fr b o (fun c z => hb (R.sto b c z).2.1) e
end
/-! ### the judgements -/
def pE (X : XC) (t : TE) (ρ : Env) (Q : M → Env → Prop) : Prop := ∀ B σ H (R : VK), Rel B ρ σ H → XOk B X → (∀ v m ρ' H', Rel B (m :: ρ') (some v :: σ) H' → Q m ρ' → R v H') → t σ H R
def pA (X : XC) (t : TA) (ρ : Env) (Q : List M → Env → Prop) : Prop := ∀ B σ H (R : List V → Hp → Prop), Rel B ρ σ H → XOk B X → (∀ vs ms ρ' H', ms.length = vs.length → Rel B (ms ++ ρ') (vs.map some ++ σ) H' → Q ms ρ' → R vs H') → t σ H R
def pT (X : XC) (t : TT) (ρ : Env) (Q : Bool → Env → Prop) : Prop := ∀ B σ H (R : Bool → Hp → Prop), Rel B ρ σ H → XOk B X → (∀ b ρ' H', Rel B ρ' σ H' → Q b ρ' → R b H') → t σ H R
/-- by values: one, two, many -/
def p1 (r : V → Hp → VK → Prop) (m : M) (Q : M → Prop) : Prop := ∀ B ρ σ H x (R : VK), Rel B (m :: ρ) (some x :: σ) H → (∀ z m' H', Rel B (m' :: ρ) (some z :: σ) H' → Q m' → R z H') → r x H R
def p2 (r : R2) (m n : M) (Q : M → Prop) : Prop := ∀ B ρ σ H x y (R : VK), Rel B (m :: n :: ρ) (some x :: some y :: σ) H → (∀ z m' H', Rel B (m' :: ρ) (some z :: σ) H' → Q m' → R z H') → r x y H R
def pL (r : List V → Hp → VK → Prop) (ms : List M) (Q : M → Prop) : Prop := ∀ B ρ σ H vs (R : VK), ms.length = vs.length → Rel B (ms ++ ρ) (vs.map some ++ σ) H → (∀ z m' H', Rel B (m' :: ρ) (some z :: σ) H' → Q m' → R z H') → r vs H R
structure Post where
  nx : Env → Prop
  rt : M → Prop
  bk : Env → Prop := fun _ => False
  ct : Env → Prop := fun _ => False
structure EOk (B : Bs) (P : Post) (D : Ends) : Prop where
  nx : ∀ ρ σ H, Rel B ρ σ H → P.nx ρ → D.nx σ H
  rt : ∀ v m H, Rel B [m] [some v] H → P.rt m → D.rt v H
  bk : ∀ ρ σ H, Rel B ρ σ H → P.bk ρ → D.bk σ H
  ct : ∀ ρ σ H, Rel B ρ σ H → P.ct ρ → D.ct σ H
def pS (X : XC) (t : TS) (ρ : Env) (P : Post) : Prop := ∀ B σ H D, Rel B ρ σ H → XOk B X → EOk B P D → t D σ H
def pG (X : XC) (g : TG) (m : M) (ρ : Env) (Q : Env → Prop) : Prop := ∀ B σ H v (R : L2.St → Hp → Prop), Rel B (m :: ρ) (some v :: σ) H → XOk B X → (∀ ρ' σ' H', Rel B ρ' σ' H' → Q ρ' → R σ' H') → g v σ H R
/-- a target of a comprehension: its own slots alone -/
def pC (X : XC) (vs : List Nat) (g : TG) (m : M) (ρ : Env) (Q : Env → Prop) : Prop := ∀ B σ H v (R : L2.St → Hp → Prop), Rel B (m :: ρ) (some v :: σ) H → XOk B X → (∀ ρ' σ' H', wipe σ' vs = wipe σ vs → Rel B ρ' σ' H' → Q ρ' → R σ' H') → g v σ H R
section
variable {X : XC} {ρ : Env} {Q : M → Env → Prop} {te ta tb tc : TE} {t u : TT} {i : Nat} {e : E} {es : List E} {m : M}
theorem pE.mono (h : pE X te ρ Q) {Q' : M → Env → Prop} (k : ∀ m ρ', Q m ρ' → Q' m ρ') : pE X te ρ Q' := fun B σ H R r x f => h B σ H R r x fun v m ρ' H' r' q => f v m ρ' H' r' (k m ρ' q)
/-! ### expressions -/
theorem p_var (h : ρ[i]? = some (.sh e)) (k : Q (.sh e) ρ) : pE X (tVar i) ρ Q := fun B σ H R r _ f => by
  obtain ⟨v, h1, h2⟩ := r.read h
  exact ⟨v, h1, f v _ ρ H h2 k⟩
theorem p_varO (h : ρ[i]? = some m) (hm : m ≠ .no) (k : Q m.frz (ρ.set i m.frz)) : pE X (tVar i) ρ Q := fun B σ H R r _ f => by
  obtain ⟨v, h1, h2⟩ := r.readO h hm
  exact ⟨v, h1, f v _ _ H h2 k⟩
theorem p_varS (h : ρ[i]? = some .sto) (k : Q .sto ρ) : pE X (tVar i) ρ Q := fun B σ H R r _ f => by
  obtain ⟨v, h1, h2⟩ := r.readO h (by simp)
  rw [show M.frz .sto = .sto from rfl, set_self h] at h2
  exact ⟨v, h1, f v _ _ H h2 k⟩
/-- what is owned is handed on -/
theorem p_move (h : ρ[i]? = some m) (hm : m ≠ .no) (k : Q m (ρ.set i .no)) : pE X (tVar i) ρ Q := fun B σ H R r _ f => by
  obtain ⟨x, hx, R2⟩ := r.take h
  have hv : ∃ v, x = some v := by
    have := R2.sl.1
    cases m with
    | no => exact absurd rfl hm
    | sh e => exact this.imp fun v q => q.1
    | ow e => obtain ⟨q, _, z, _⟩ := this; exact ⟨_, z⟩
    | od e => obtain ⟨q, _, z, _⟩ := this; exact ⟨_, z⟩
    | ot e => obtain ⟨q, _, z, _⟩ := this; exact ⟨_, z⟩
    | sto => obtain ⟨q, _, z, _⟩ := this; exact ⟨_, z⟩
    | pt q C dx fs => obtain ⟨z, _⟩ := this; exact ⟨_, z⟩
    | o2 q bs ess => obtain ⟨z, _⟩ := this; exact ⟨_, z⟩
    | bx b => obtain ⟨v, z, _⟩ := this; exact ⟨v, z⟩
  obtain ⟨v, rfl⟩ := hv
  exact ⟨v, hx, f v _ _ H R2 k⟩
theorem p_int {j : Int} (k : Q (.sh (.int j)) ρ) : pE X (tC (.int j)) ρ Q := fun B σ H R r _ f => f _ _ ρ H (r.push (e := .int j) rfl) k
theorem p_bl {b : Bool} (k : Q (.sh (.bl b)) ρ) : pE X (tC (.bl b)) ρ Q := fun B σ H R r _ f => f _ _ ρ H (r.push (e := .bl b) rfl) k
theorem p_non (k : Q (.sh .non) ρ) : pE X (tC .non) ρ Q := fun B σ H R r _ f => f _ _ ρ H (r.push (e := .non) rfl) k
theorem p_str {s : Str} (k : Q (.sh (.str s)) ρ) : pE X (tC (.str s)) ρ Q := fun B σ H R r _ f => f _ _ ρ H (r.push (e := .str s) rfl) k
theorem p_op {r : R2} (k : pE X ta ρ fun m ρ1 => pE X tb ρ1 fun n ρ2 => p2 r m.frz n.frz fun o => Q o ρ2) : pE X (tOp r ta tb) ρ Q := fun B σ H R rel x f =>
  k B σ H _ rel x fun v m ρ1 H1 r1 q1 => by
    have r1 := r1.frz
    refine q1 _ σ H1 _ (Rel.hide (ρf := [m.frz]) (σf := [some v]) r1 rfl) (XOk.hide (ρf := [m.frz]) (σf := [some v]) x r1 rfl) fun w n ρ2 H2 r2 q2 => ?_
    have r3 : Rel B (m.frz :: n :: ρ2) (some v :: some w :: σ) H2 := Rel.unhide (ρf := [m.frz]) (σf := [some v]) r1 rfl r2
    have r4 : Rel B (m.frz :: n.frz :: ρ2) (some v :: some w :: σ) H2 := by
      have h1 : Rel (B.hide (n :: ρ2) (some w :: σ) [m.frz] [some v] H2) (n :: ρ2) (some w :: σ) H2 := Rel.hide (ρf := [m.frz]) (σf := [some v]) r3 rfl
      exact Rel.unhide (ρf := [m.frz]) (σf := [some v]) r3 rfl h1.frz
    exact q2 B ρ2 σ H2 v w R r4 fun z m' H' r5 q5 => f z m' ρ2 H' r5 q5
theorem p_un {r : V → Hp → VK → Prop} (k : pE X ta ρ fun m ρ1 => p1 r m.frz fun o => Q o ρ1) : pE X (tUn r ta) ρ Q := fun B σ H R rel x f =>
  k B σ H _ rel x fun v m ρ1 H1 r1 q1 => q1 B ρ1 σ H1 v R r1.frz fun z m' H' r5 q5 => f z m' ρ1 H' r5 q5
theorem p_nil {QA : List M → Env → Prop} (k : QA [] ρ) : pA X tNil ρ QA := fun B σ H R rel x f => f [] [] ρ H rfl rel k
theorem p_cons {tr : TA} {QA : List M → Env → Prop} (k : pE X ta ρ fun m ρ1 => pA X tr ρ1 fun ms ρ2 => QA (m.frz :: ms) ρ2) : pA X (tCons ta tr) ρ QA := fun B σ H R rel x f =>
  k B σ H _ rel x fun v m ρ1 H1 r1 q1 => by
    have r1 := r1.frz
    refine q1 _ σ H1 _ (Rel.hide (ρf := [m.frz]) (σf := [some v]) r1 rfl) (XOk.hide (ρf := [m.frz]) (σf := [some v]) x r1 rfl) fun vs ms ρ2 H2 hl r2 q2 => ?_
    exact f (v :: vs) (m.frz :: ms) ρ2 H2 (congrArg (· + 1) hl) (Rel.unhide (ρf := [m.frz]) (σf := [some v]) r1 rfl r2) q2
theorem p_CB {r : List V → Hp → VK → Prop} {ta : TA} (k : pA X ta ρ fun ms ρ1 => pL r ms fun o => Q o ρ1) : pE X (tCB r ta) ρ Q := fun B σ H R rel x f =>
  k B σ H _ rel x fun vs ms ρ1 H1 hl r1 q1 => q1 B ρ1 σ H1 vs R hl r1 fun z m' H' r5 q5 => f z m' ρ1 H' r5 q5
/-! ### tests -/
theorem p_test {QT : Bool → Env → Prop} (k : pE X te ρ fun m ρ1 => ∃ b, m = .sh (.bl b) ∧ QT b ρ1) : pT X (tTest te) ρ QT := fun B σ H R rel x f =>
  k B σ H _ rel x fun v m ρ1 H1 r1 ⟨b, e, q⟩ => by
    subst e
    obtain ⟨w, e1, e2⟩ := r1.sl.1
    cases e1
    exact ⟨b, e2, f b ρ1 H1 r1.tail q⟩
theorem p_B {QT : Bool → Env → Prop} (k : pE X te ρ fun m ρ1 => ∃ b, m = .sh (.bl b) ∧ QT b ρ1) : pT X (tB te) ρ QT := fun B σ H R rel x f =>
  k B σ H _ rel x fun v m ρ1 H1 r1 ⟨b, e, q⟩ => by
    subst e
    obtain ⟨w, e1, e2⟩ := r1.sl.1
    cases e1
    exact ⟨b, e2, f b ρ1 H1 r1.tail q⟩
theorem p_not {QT : Bool → Env → Prop} (k : pT X t ρ fun c ρ1 => QT (!c) ρ1) : pT X (tNot t) ρ QT := fun B σ H R rel x f => k B σ H _ rel x fun b ρ1 H1 r1 q => f _ ρ1 H1 r1 q
theorem p_and {QT : Bool → Env → Prop} (k : pT X t ρ fun c ρ1 => if c = true then pT X u ρ1 QT else QT false ρ1) : pT X (tAnd t u) ρ QT := fun B σ H R rel x f => k B σ H _ rel x fun b ρ1 H1 r1 q => by
  cases b with
  | true => exact (show pT X u ρ1 QT from q) B σ H1 R r1 x f
  | false => exact f false ρ1 H1 r1 q
theorem p_or {QT : Bool → Env → Prop} (k : pT X t ρ fun c ρ1 => if c = true then QT true ρ1 else pT X u ρ1 QT) : pT X (tOr t u) ρ QT := fun B σ H R rel x f => k B σ H _ rel x fun b ρ1 H1 r1 q => by
  cases b with
  | false => exact (show pT X u ρ1 QT from q) B σ H1 R r1 x f
  | true => exact f true ρ1 H1 r1 q
theorem p_yes {QT : Bool → Env → Prop} (k : QT true ρ) : pT X tYes ρ QT := fun B σ H R rel x f => f true ρ H rel k
theorem Rel.bl {B : Bs} {σ : L2.St} {H : Hp} {v : V} {b : Bool} (r : Rel B (.sh (.bl b) :: ρ) (some v :: σ) H) : v = .bl b := by
  obtain ⟨w, e1, e2⟩ := r.sl.1
  cases e1
  exact e2
theorem Rel.int {B : Bs} {σ : L2.St} {H : Hp} {v : V} {b : Int} (r : Rel B (.sh (.int b) :: ρ) (some v :: σ) H) : v = .int b := by
  obtain ⟨w, e1, e2⟩ := r.sl.1
  cases e1
  exact e2
theorem Rel.str {B : Bs} {σ : L2.St} {H : Hp} {v : V} {b : Str} (r : Rel B (.sh (.str b) :: ρ) (some v :: σ) H) : v = .str b := by
  obtain ⟨w, e1, e2⟩ := r.sl.1
  cases e1
  exact e2
theorem Rel.non {B : Bs} {σ : L2.St} {H : Hp} {v : V} (r : Rel B (.sh .non :: ρ) (some v :: σ) H) : v = .non := by
  obtain ⟨w, e1, e2⟩ := r.sl.1
  cases e1
  exact e2
theorem Rel.val {B : Bs} {σ : L2.St} {H : Hp} {v : V} (r : Rel B (.sh e :: ρ) (some v :: σ) H) : Ev (wos (owns ρ σ ++ B.O1) H) v e := by
  obtain ⟨w, e1, e2⟩ := r.sl.1
  cases e1
  exact e2
theorem Rel.valH {B : Bs} {σ : L2.St} {H : Hp} {v : V} (r : Rel B (.sh e :: ρ) (some v :: σ) H) : Ev H v e := r.val.mono wos_sub
theorem p_andV (k : pE X ta ρ fun m ρ1 => ∃ c, m = .sh (.bl c) ∧ if c = true then pE X tb ρ1 Q else Q (.sh (.bl false)) ρ1) : pE X (tAndV ta tb) ρ Q := fun B σ H R rel x f =>
  k B σ H _ rel x fun v m ρ1 H1 r1 ⟨c, e, q⟩ => by
    subst e
    refine ⟨c, r1.bl, ?_⟩
    cases c with
    | true => exact (show pE X tb ρ1 Q from q) B σ H1 R r1.tail x f
    | false => exact f _ _ ρ1 H1 (r1.tail.push (e := .bl false) rfl) q
theorem p_orV (k : pE X ta ρ fun m ρ1 => ∃ c, m = .sh (.bl c) ∧ if c = true then Q (.sh (.bl true)) ρ1 else pE X tb ρ1 Q) : pE X (tOrV ta tb) ρ Q := fun B σ H R rel x f =>
  k B σ H _ rel x fun v m ρ1 H1 r1 ⟨c, e, q⟩ => by
    subst e
    refine ⟨c, r1.bl, ?_⟩
    cases c with
    | false => exact (show pE X tb ρ1 Q from q) B σ H1 R r1.tail x f
    | true => exact f _ _ ρ1 H1 (r1.tail.push (e := .bl true) rfl) q
theorem p_notV (k : pE X ta ρ fun m ρ1 => ∃ c, m = .sh (.bl c) ∧ Q (.sh (.bl (!c))) ρ1) : pE X (tNotV ta) ρ Q := fun B σ H R rel x f =>
  k B σ H _ rel x fun v m ρ1 H1 r1 ⟨c, e, q⟩ => by
    subst e
    exact ⟨c, r1.bl, f _ _ ρ1 H1 (r1.tail.push (e := .bl (!c)) rfl) q⟩
/-- a comparison's chain over ints -/
def intRel (r : R2) (g : Int → Int → Bool) : Prop := ∀ i j H Q, Q (.bl (g i j)) H → r (.int i) (.int j) H Q
theorem p_chain {r r' : R2} {g g' : Int → Int → Bool} (hr : intRel r g) (hr' : intRel r' g') (k : pE X ta ρ fun m ρ1 => pE X tb ρ1 fun n ρ2 => ∃ i j, m = .sh (.int i) ∧ n = .sh (.int j) ∧ if g i j = true then pE X tc ρ2 (fun o ρ3 => ∃ l, o = .sh (.int l) ∧ Q (.sh (.bl (g' j l))) ρ3) else Q (.sh (.bl false)) ρ2) : pE X (tChain r r' ta tb tc) ρ Q := fun B σ H R rel x f =>
  k B σ H _ rel x fun v m ρ1 H1 r1 q1 => by
    have r1' := r1.frz
    refine q1 _ σ H1 _ (Rel.hide (ρf := [m.frz]) (σf := [some v]) r1' rfl) (XOk.hide (ρf := [m.frz]) (σf := [some v]) x r1' rfl) fun w n ρ2 H2 r2 ⟨i, j, e1, e2, q2⟩ => ?_
    subst e1 e2
    have r3 : Rel B (.sh (.int i) :: .sh (.int j) :: ρ2) (some v :: some w :: σ) H2 := Rel.unhide (ρf := [M.sh (.int i)]) (σf := [some v]) r1' rfl r2
    obtain rfl := r3.int
    obtain rfl := r3.tail.int
    refine hr i j H2 _ ⟨g i j, rfl, ?_⟩
    cases hg : g i j with
    | true =>
      rw [hg] at q2
      refine (show pE X tc ρ2 _ from q2) B σ H2 _ r3.tail.tail x fun z o ρ3 H3 r4 ⟨l, e3, q3⟩ => ?_
      subst e3
      obtain rfl := r4.int
      exact hr' j l H3 _ (f _ _ ρ3 H3 (r4.tail.push (e := .bl (g' j l)) rfl) q3)
    | false =>
      rw [hg] at q2
      exact f _ _ ρ2 H2 (r3.tail.tail.push (e := .bl false) rfl) q2
/-! ### statements -/
variable {P : Post} {s1 s2 : TS}
theorem p_seq (k : pS X s1 ρ ⟨fun ρ' => pS X s2 ρ' P, P.rt, P.bk, P.ct⟩) : pS X (tSeq s1 s2) ρ P := fun B σ H D r x e => k B σ H _ r x ⟨fun ρ' σ' H' r' q => q B σ' H' D r' x e, e.rt, e.bk, e.ct⟩
theorem p_next (k : P.nx ρ) : pS X tNext ρ P := fun B σ H D r x e => e.nx ρ σ H r k
theorem Rel.nil {B : Bs} : ∀ {ρ : Env} {σ : L2.St} {H : Hp}, Rel B ρ σ H → Rel B [] [] H
  | [], [], _, r => r
  | _ :: _, _ :: _, _, r => Rel.nil r.tail
  | [], _ :: _, _, r => r.sl.elim
  | _ :: _, [], _, r => r.sl.elim
theorem Rel.head {B : Bs} {ρ : Env} {σ : L2.St} {H : Hp} {x : Option V} (r : Rel B (m :: ρ) (x :: σ) H) : Rel B [m] [x] H := by
  have nd := List.nodup_append.mp r.nd
  have eo : owns [m] [x] = own m x := List.append_nil _
  refine r.of (by rw [eo]; exact nd.1) (fun q h => List.mem_append_left _ (by rw [← eo]; exact h)) ⟨r.sl.1.mono (wos_less fun b hb => ?_) fun _ _ _ e => e, trivial⟩
  rcases List.mem_append.mp hb with h | h
  · exact List.mem_append_left _ (List.mem_append_left _ (by rw [← eo]; exact h))
  · exact List.mem_append_right _ h
theorem p_ret (k : pE X te ρ fun m _ => P.rt m) : pS X (tRet te) ρ P := fun B σ H D r x e => k B σ H _ r x fun v m ρ' H' r' q => e.rt v m H' r'.head q
theorem p_drop (k : pE X te ρ fun _ ρ1 => P.nx ρ1) : pS X (tDrop te) ρ P := fun B σ H D r x e => k B σ H _ r x fun v m ρ' H' r' q => e.nx ρ' σ H' r'.tail q
theorem p_asg {g : TG} (k : pE X te ρ fun m ρ1 => pG X g m ρ1 P.nx) : pS X (tAsg te g) ρ P := fun B σ H D r x e => k B σ H _ r x fun v m ρ' H' r' q => q B σ H' v _ r' x fun ρ2 σ2 H2 r2 q2 => e.nx ρ2 σ2 H2 r2 q2
theorem p_if (k : pT X t ρ fun c ρ1 => if c = true then pS X s1 ρ1 P else pS X s2 ρ1 P) : pS X (tIfS t s1 s2) ρ P := fun B σ H D r x e => k B σ H _ r x fun b ρ1 H1 r1 q => by
  cases b with
  | true => exact (show pS X s1 ρ1 P from q) B σ H1 D r1 x e
  | false => exact (show pS X s2 ρ1 P from q) B σ H1 D r1 x e
theorem p_gname {QG : Env → Prop} (k : QG (ρ.set i m)) : pG X (gName i) m ρ QG := fun B σ H v R r x f => f _ _ H (r.set i) k
theorem wipe_own {σ : L2.St} {x : Option V} : ∀ {vs : List Nat} {i : Nat}, i ∈ vs → wipe (σ.set i x) vs = wipe σ vs
  | v :: vs, i, h => by
    show (wipe (σ.set i x) vs).set v none = (wipe σ vs).set v none
    rcases List.mem_cons.mp h with e | e
    · subst e
      have gen : ∀ (us : List Nat) (τ : L2.St), (wipe (τ.set i x) us).set i none = (wipe τ us).set i none := by
        intro us
        induction us with
        | nil => intro τ; exact List.set_set ..
        | cons u us ih =>
          intro τ
          show ((wipe (τ.set i x) us).set u none).set i none = ((wipe τ us).set u none).set i none
          by_cases hu : u = i
          · subst hu
            rw [List.set_set, List.set_set]
            exact ih τ
          · rw [List.set_comm _ _ hu, List.set_comm _ _ hu, ih τ]
      exact gen vs σ
    · rw [wipe_own e]
  | [], _, h => by simp at h
theorem p_cname {vs : List Nat} {QG : Env → Prop} (hi : i ∈ vs) (k : QG (ρ.set i m)) : pC X vs (gName i) m ρ QG := fun B σ H v R r x f => f _ _ H (wipe_own hi) (r.set i) k
end
end Pl

set_option Elab.async false
set_option linter.all false
set_option maxRecDepth 100000
set_option maxHeartbeats 4000000
/-! Pc: contracts, calls, loops. -/
namespace Pl
open PySem L2 Gx PySem.Spec PyProof.Rows
/-- what a def asks, gives, raises -/
structure Ct where
  pre : List M → Prop
  post : List M → M → Prop
  xp : List M → Value → XD → Prop := fun _ _ _ => False
def spC (c : Ct) : Sp := fun vs H Q E => ∃ B ms, ms.length = vs.length ∧ Rel B ms (vs.map some) H ∧ c.pre ms ∧ (∀ v m H', Rel B [m] [some v] H' → c.post ms m → Q v H') ∧ (∀ cls d xd H', Rel B [] [] H' → XDat B [] [] H' d xd → c.xp ms cls xd → E cls d H')
theorem Rel.pad {B : Bs} {ρ : Env} {σ : L2.St} {H : Hp} (r : Rel B ρ σ H) : ∀ n, Rel B (ρ ++ List.replicate n .no) (σ ++ List.replicate n none) H := by
  intro n
  have hl := r.sl.length
  have on : ∀ n : Nat, owns (List.replicate n M.no) (List.replicate n (none : Option V)) = [] := by
    intro n
    induction n with
    | zero => rfl
    | succ n ih => exact ih
  have eo : owns (ρ ++ List.replicate n .no) (σ ++ List.replicate n none) = owns ρ σ := by rw [owns_append hl, on, List.append_nil]
  have sn : ∀ n : Nat, Slots B.st H (wos (owns ρ σ ++ B.O1) H) (List.replicate n M.no) (List.replicate n (none : Option V)) := by
    intro n
    induction n with
    | zero => trivial
    | succ n ih => exact ⟨trivial, ih⟩
  exact r.of (by rw [eo]; exact r.nd) (fun q h => by rw [← eo]; exact h) (by rw [eo]; exact (Slots.append hl).mpr ⟨r.sl, sn n⟩)
/-- a def's body keeps its contract -/
theorem p_body {c : Ct} {N : List Str} {vs : List V} {H : Hp} {Q : VK} {E : XK} {t : TS} (h : spC c vs H Q E)
    (k : ∀ ms, ms.length = vs.length → c.pre ms → pS ⟨fun cls d _ H => E cls d H, fun _ cls xd => c.xp ms cls xd, none⟩ t (ms ++ List.replicate (N.length - ms.length) .no) ⟨fun _ => c.post ms (.sh .non), c.post ms, fun _ => False, fun _ => False⟩) :
    t { nx := fun _ H' => Q .non H', rt := Q } (L2.start N vs) H := by
  obtain ⟨B, ms, hl, r, hp, kq, kx⟩ := h
  have r2 := r.pad (N.length - ms.length)
  rw [hl] at r2
  have kk := k ms hl hp
  rw [hl] at kk
  refine kk B _ H _ r2 ⟨fun ρ σ H cls d xd r' hd q => ?_, fun _ _ _ z => nomatch z⟩ ⟨fun ρ σ H r' q => kq _ _ H (r'.push (e := .non) rfl).head q, fun v m H r' q => kq v m H r' q, fun _ _ _ _ z => z.elim, fun _ _ _ _ z => z.elim⟩
  exact kx cls d xd H r'.nil (hd.mono fun b hb => by
    rcases List.mem_append.mp hb with h | h
    · exact absurd h (by simp [owns])
    · exact List.mem_append_right _ h) q
theorem spC_len {c : Ct} {n : Nat} (h : ∀ ms, c.pre ms → ms.length = n) {vs : List V} {H : Hp} {Q : VK} {E : XK} (q : spC c vs H Q E) : vs.length = n := by
  obtain ⟨B, ms, hl, _, hp, _⟩ := q
  rw [← hl]
  exact h ms hp
/-- a call: the arguments in front, the rest put aside -/
theorem spC_use {c : Ct} {B : Bs} {ms : List M} {vs : List V} {ρ : Env} {σ : L2.St} {H : Hp} {Q : VK} {E : XK} (hl : ms.length = vs.length) (r : Rel B (ms ++ ρ) (vs.map some ++ σ) H) (hp : c.pre ms)
    (kq : ∀ v m H', Rel B (m :: ρ) (some v :: σ) H' → c.post ms m → Q v H') (kx : ∀ cls d xd H', Rel B ρ σ H' → XDat B ρ σ H' d xd → c.xp ms cls xd → E cls d H') : spC c vs H Q E := by
  have hl2 : ms.length = (vs.map some).length := by rw [List.length_map]; exact hl
  have hρ : ρ.length = σ.length := by
    have := r.sl.length
    simp only [List.length_append, List.length_map] at this
    omega
  -- the rest ahead of the arguments
  have sw : Rel B (ρ ++ ms) (σ ++ vs.map some) H := by
    have p1 : (owns (ρ ++ ms) (σ ++ vs.map some)).Perm (owns (ms ++ ρ) (vs.map some ++ σ)) := by
      rw [owns_append hρ, owns_append hl2]
      exact List.perm_append_comm
    have s1 := (Slots.append hl2).mp r.sl
    have sW : Same (wos (owns (ms ++ ρ) (vs.map some ++ σ) ++ B.O1) H) (wos (owns (ρ ++ ms) (σ ++ vs.map some) ++ B.O1) H) := wos_perm (p1.append_right _)
    exact r.of (p1.nodup_iff.mpr r.nd) (fun q h => p1.mem_iff.mp h) ((Slots.append hρ).mpr ⟨s1.2.mono sW fun _ _ _ e => e, s1.1.mono sW fun _ _ _ e => e⟩)
  refine ⟨B.hide ms (vs.map some) ρ σ H, ms, hl, sw.hide hρ, hp, fun v m H' r' q => ?_, fun cls d xd H' r' hd q => ?_⟩
  · have u : Rel B (ρ ++ [m]) (σ ++ [some v]) H' := sw.unhide hρ r'
    refine kq v m H' ?_ q
    have p1 : (owns (m :: ρ) (some v :: σ)).Perm (owns (ρ ++ [m]) (σ ++ [some v])) := by
      rw [owns_append hρ]
      have e : owns [m] [some v] = own m (some v) := List.append_nil _
      rw [e]
      exact List.perm_append_comm
    have s1 := (Slots.append hρ).mp u.sl
    have sW : Same (wos (owns (ρ ++ [m]) (σ ++ [some v]) ++ B.O1) H') (wos (owns (m :: ρ) (some v :: σ) ++ B.O1) H') := wos_perm (p1.append_right _)
    exact u.of (p1.nodup_iff.mpr u.nd) (fun q h => p1.mem_iff.mp h) ⟨s1.2.1.mono sW fun _ _ _ e => e, s1.1.mono sW fun _ _ _ e => e⟩
  · have u : Rel B (ρ ++ []) (σ ++ []) H' := sw.unhide hρ r'
    rw [List.append_nil, List.append_nil] at u
    refine kx cls d xd H' u (hd.mono fun b hb => ?_) q
    rcases List.mem_append.mp hb with h | h
    · exact List.mem_append_right _ (List.mem_append_right _ h)
    · exact List.mem_append_right _ (List.mem_append_left _ h)
section
variable {X : XC} {ρ : Env} {Q : M → Env → Prop} {te ta tb tc : TE} {t : TA} {i : Nat} {e : E} {es : List E} {m : M} {c : Ct} {Ew : XK}
theorem p_call (hW : X.W = fun cls d _ H => Ew cls d H) (k : pA X t ρ fun ms ρ1 => c.pre ms ∧ (∀ m, c.post ms m → Q m ρ1) ∧ ∀ cls xd, c.xp ms cls xd → X.Qx ρ1 cls xd) : pE X (tCall (spC c) [] Ew t) ρ Q := fun B σ H R rel x f => by
  unfold tCall
  refine k B σ H _ rel x fun vs ms ρ1 H1 hl r1 ⟨h1, h2, h3⟩ => ?_
  rw [List.append_nil]
  refine spC_use hl r1 h1 (fun v m H' r' q => f v m ρ1 H' r' (h2 m q)) fun cls d xd H' r' hd q => ?_
  have := x.ex ρ1 σ H' cls d xd r' hd (h3 cls xd q)
  rw [hW] at this
  exact this
theorem p_callS {E : L2.St → XK} (hW : X.W = fun cls d σ H => E σ cls d H) (k : pA X t ρ fun ms ρ1 => c.pre ms ∧ (∀ m, c.post ms m → Q m ρ1) ∧ ∀ cls xd, c.xp ms cls xd → X.Qx ρ1 cls xd) : pE X (tCallS (spC c) E t) ρ Q := fun B σ H R rel x f => by
  unfold tCallS
  refine k B σ H _ rel x fun vs ms ρ1 H1 hl r1 ⟨h1, h2, h3⟩ => ?_
  refine spC_use hl r1 h1 (fun v m H' r' q => f v m ρ1 H' r' (h2 m q)) fun cls d xd H' r' hd q => ?_
  have := x.ex ρ1 σ H' cls d xd r' hd (h3 cls xd q)
  rw [hW] at this
  exact this
/-! ### displays -/
theorem ofSh : ∀ {es : List E} {vs : List V} {B : Bs} {σ : L2.St} {H : Hp}, (es.map M.sh).length = vs.length → Rel B (es.map M.sh ++ ρ) (vs.map some ++ σ) H → EvL (wos (owns ρ σ ++ B.O1) H) vs es ∧ Rel B ρ σ H
  | [], [], B, σ, H, _, r => ⟨rfl, r⟩
  | e :: es, v :: vs, B, σ, H, hl, r => by
    have hl' : (es.map M.sh).length = vs.length := by simpa using hl
    have ih := ofSh hl' (show Rel B (es.map M.sh ++ ρ) (vs.map some ++ σ) H from r.tail)
    have o0 : ∀ (es : List E) (vs : List V), owns (es.map M.sh) (vs.map some) = [] := by
      intro es
      induction es with
      | nil => intro vs; rfl
      | cons e es ih =>
        intro vs
        cases vs with
        | nil => rfl
        | cons v vs => exact ih vs
    have oo : owns (es.map M.sh ++ ρ) (vs.map some ++ σ) = owns ρ σ := by
      rw [owns_append (by rw [List.length_map (as := vs)]; exact hl'), o0, List.nil_append]
    have hv := (show Rel B (.sh e :: (es.map M.sh ++ ρ)) (some v :: (vs.map some ++ σ)) H from r).val
    rw [oo] at hv
    exact ⟨⟨v, vs, rfl, hv, ih.1⟩, ih.2⟩
  | [], _ :: _, _, _, _, hl, _ => by simp at hl
  | _ :: _, [], _, _, _, hl, _ => by simp at hl
theorem p_lst (k : pA X t ρ fun ms ρ1 => ∃ es, ms = es.map M.sh ∧ es.length ≤ sizeLine ∧ Q (.ow es) ρ1) : pE X (tLst t) ρ Q := fun B σ H R rel x f =>
  k B σ H _ rel x fun vs ms ρ1 H1 hl r1 ⟨es, e, hz, q⟩ => by
    subst e
    obtain ⟨h1, h2⟩ := ofSh hl r1
    have hv : vs.length ≤ sizeLine := by rw [h1.length]; exact hz
    exact ⟨hv, fun p hp => f _ _ ρ1 _ (h2.pushL hp hv h1) q⟩
theorem Rel.pushTup {B : Bs} {σ : L2.St} {H : Hp} {q : Addr} {vs : List V} (r : Rel B ρ σ H) (hq : H q = none) (hl : vs.length ≤ sizeLine) (h : EvL (wos (owns ρ σ ++ B.O1) H) vs es) : Rel B (.sh (.tup es) :: ρ) (some (.ref q) :: σ) (upd H q (.tup vs)) := by
  have h1 := (r.fresh hq).1
  have r2 := r.grow (same_new (o := .tup vs) hq)
  exact r2.push ⟨q, vs, rfl, by rw [wos_out h1]; exact upd_same, hl, h.mono (wos_same fun b o hb e => ⟨hb, same_new hq _ _ e⟩)⟩
theorem p_tup (k : pA X t ρ fun ms ρ1 => ∃ es, ms = es.map M.sh ∧ es.length ≤ sizeLine ∧ Q (.sh (.tup es)) ρ1) : pE X (tTup t) ρ Q := fun B σ H R rel x f =>
  k B σ H _ rel x fun vs ms ρ1 H1 hl r1 ⟨es, e, hz, q⟩ => by
    subst e
    obtain ⟨h1, h2⟩ := ofSh hl r1
    have hv : vs.length ≤ sizeLine := by rw [h1.length]; exact hz
    exact ⟨hv, fun p hp => f _ _ ρ1 _ (h2.pushTup hp hv h1) q⟩
end
/-! ### what a loop walks -/
structure ItR (B : Bs) (F : Env) (Fσ : L2.St) (J : It) (es : List E) : Prop where
  stop : ∀ ρ σ H, Rel B (F ++ ρ) (Fσ ++ σ) H → J.stop es.length H
  go : ∀ i e ρ σ H, es[i]? = some e → Rel B (F ++ ρ) (Fσ ++ σ) H → J.go i H ∧ ∀ x H', J.yld i H x H' → Rel B (F ++ (.sh e :: ρ)) (Fσ ++ (some x :: σ)) H'
def pI (X : XC) (w : TI) (ρ : Env) (Q : List E → Env → Prop) : Prop := ∀ B σ H (R : It → Hp → Prop), Rel B ρ σ H → XOk B X → (∀ J es F Fσ ρ' H', F.length = Fσ.length → Rel B (F ++ ρ') (Fσ ++ σ) H' → (∀ B, ItR B F Fσ J es) → Q es ρ' → R J H') → w σ H R
section
variable {X : XC} {ρ : Env} {B : Bs} {σ : L2.St} {H : Hp} {F : Env} {Fσ : L2.St} {e : E} {es : List E} {v : V}
theorem Rel.mid (r : Rel B (F ++ ρ) (Fσ ++ σ) H) (hl : F.length = Fσ.length) (h : Ev (wos (owns (F ++ ρ) (Fσ ++ σ) ++ B.O1) H) v e) : Rel B (F ++ (.sh e :: ρ)) (Fσ ++ (some v :: σ)) H := by
  have eo : owns (F ++ (.sh e :: ρ)) (Fσ ++ (some v :: σ)) = owns (F ++ ρ) (Fσ ++ σ) := by
    rw [owns_append hl, owns_append hl]; rfl
  have s := (Slots.append hl).mp r.sl
  exact r.of (by rw [eo]; exact r.nd) (fun q h => by rw [← eo]; exact h) (by rw [eo]; exact (Slots.append hl).mpr ⟨s.1, ⟨v, rfl, h⟩, s.2⟩)
theorem Rel.slotL {p : Addr} (r : Rel B (.sh (.lst es) :: ρ) (some (.ref p) :: σ) H) : ∃ vs, H p = some (.lst vs) ∧ EvL (wos (owns (.sh (.lst es) :: ρ) (some (.ref p) :: σ) ++ B.O1) H) vs es := by
  obtain ⟨q, vs, e, h1, _, h2⟩ := r.val
  cases e
  exact ⟨vs, (wos_some h1).2, h2⟩
theorem Rel.slotT {p : Addr} (r : Rel B (.sh (.tup es) :: ρ) (some (.ref p) :: σ) H) : ∃ vs, H p = some (.tup vs) ∧ EvL (wos (owns (.sh (.tup es) :: ρ) (some (.ref p) :: σ) ++ B.O1) H) vs es := by
  obtain ⟨q, vs, e, h1, _, h2⟩ := r.val
  cases e
  exact ⟨vs, (wos_some h1).2, h2⟩
theorem itr_list {K : PySem.W.Frag} {p : Addr} : ItR B [.sh (.lst es)] [some (.ref p)] (Itl K p) es where
  stop := fun ρ σ H r => by
    obtain ⟨vs, h1, h2⟩ := Rel.slotL r
    exact ⟨vs, SqL.of h1, by rw [h2.length]; exact Nat.le_refl _⟩
  go := fun i e ρ σ H he r => by
    obtain ⟨vs, h1, h2⟩ := Rel.slotL r
    obtain ⟨v, h3, h4⟩ := h2.get he
    refine ⟨⟨vs, v, SqL.of h1, h3⟩, fun x H' ⟨e1, hx⟩ => ?_⟩
    subst e1
    have := hx vs (SqL.of h1)
    rw [h3] at this
    cases this
    exact Rel.mid r rfl h4
theorem itr_tup {K : PySem.W.Frag} {p : Addr} : ItR B [.sh (.tup es)] [some (.ref p)] (Itt K p) es where
  stop := fun ρ σ H r => by
    obtain ⟨vs, h1, h2⟩ := Rel.slotT r
    exact ⟨vs, SqT.of h1, by rw [h2.length]; exact Nat.le_refl _⟩
  go := fun i e ρ σ H he r => by
    obtain ⟨vs, h1, h2⟩ := Rel.slotT r
    obtain ⟨v, h3, h4⟩ := h2.get he
    refine ⟨⟨vs, v, SqT.of h1, h3⟩, fun x H' ⟨e1, hx⟩ => ?_⟩
    subst e1
    have := hx vs (SqT.of h1)
    rw [h3] at this
    cases this
    exact Rel.mid r rfl h4
/-- lo, lo + 1, .. -/
def rng (lo : Int) (n : Nat) : List E := (List.range n).map fun i : Nat => E.int (lo + i)
theorem itr_range {lo : Int} {n : Nat} : ItR B [] [] (Itr lo n) (rng lo n) where
  stop := fun ρ σ H r => by
    show n ≤ (rng lo n).length
    unfold rng
    rw [List.length_map, List.length_range]
    exact Nat.le_refl _
  go := fun i e ρ σ H he r => by
    have hi : i < n := by
      have := (List.getElem?_eq_some_iff.mp he).1
      unfold rng at this
      rwa [List.length_map, List.length_range] at this
    refine ⟨hi, fun x H' ⟨e1, e2⟩ => ?_⟩
    subst e1 e2
    have e3 : e = .int (lo + i) := by
      unfold rng at he
      rw [List.getElem?_map, List.getElem?_range hi] at he
      exact (Option.some.inj he).symm
    subst e3
    exact Rel.push r (e := .int (lo + i)) rfl
theorem Rel.mid_new {q : Addr} {vs : List V} (r : Rel B (F ++ ρ) (Fσ ++ σ) H) (hl : F.length = Fσ.length) (hq : H q = none) (hz : vs.length ≤ sizeLine) (h : EvL (wos (owns (F ++ ρ) (Fσ ++ σ) ++ B.O1) H) vs es) : Rel B (F ++ (.sh (.tup es) :: ρ)) (Fσ ++ (some (.ref q) :: σ)) (upd H q (.tup vs)) := by
  have h1 := (r.fresh hq).1
  exact (r.grow (same_new (o := .tup vs) hq)).mid hl ⟨q, vs, rfl, by rw [wos_out h1]; exact upd_same, hz, h.mono (wos_same fun b o hb e => ⟨hb, same_new hq _ _ e⟩)⟩
/-- (0, a), (1, b), .. -/
def enm (es : List E) : List E := es.mapIdx fun i e => E.tup [.int (i : Nat), e]
theorem enm_len : (enm es).length = es.length := List.length_mapIdx ..
theorem enm_at {i : Nat} {d : E} (h : (enm es)[i]? = some d) : ∃ e, es[i]? = some e ∧ d = .tup [.int (i : Nat), e] := by
  unfold enm at h
  rw [List.getElem?_mapIdx] at h
  cases q : es[i]? with
  | none => rw [q] at h; cases h
  | some e => rw [q] at h; exact ⟨e, rfl, (Option.some.inj h).symm⟩
theorem two_ok : (2 : Nat) ≤ sizeLine := by decide
theorem itr_enum {K : PySem.W.Frag} {p : Addr} : ItR B [.sh (.lst es)] [some (.ref p)] (Ite K p) (enm es) where
  stop := fun ρ σ H r => by
    obtain ⟨vs, h1, h2⟩ := Rel.slotL r
    exact ⟨vs, SqL.of h1, Nat.le_of_eq (h2.length.trans enm_len.symm)⟩
  go := fun i d ρ σ H hd r => by
    obtain ⟨e, he, rfl⟩ := enm_at hd
    obtain ⟨vs, h1, h2⟩ := Rel.slotL r
    obtain ⟨v, h3, h4⟩ := h2.get he
    refine ⟨⟨vs, v, SqL.of h1, h3⟩, fun x H' ⟨T, y, e1, hT, e2, hx⟩ => ?_⟩
    subst e1 e2
    have := hx vs (SqL.of h1)
    rw [h3] at this
    cases this
    exact Rel.mid_new r rfl hT two_ok ⟨_, _, rfl, rfl, _, _, rfl, h4, rfl⟩
theorem itr_enumT {K : PySem.W.Frag} {p : Addr} : ItR B [.sh (.tup es)] [some (.ref p)] (IteT K p) (enm es) where
  stop := fun ρ σ H r => by
    obtain ⟨vs, h1, h2⟩ := Rel.slotT r
    exact ⟨vs, SqT.of h1, h2.length.trans enm_len.symm⟩
  go := fun i d ρ σ H hd r => by
    obtain ⟨e, he, rfl⟩ := enm_at hd
    obtain ⟨vs, h1, h2⟩ := Rel.slotT r
    obtain ⟨v, h3, h4⟩ := h2.get he
    refine ⟨⟨vs, v, SqT.of h1, h3⟩, fun x H' ⟨T, y, e1, hT, e2, hx⟩ => ?_⟩
    subst e1 e2
    have := hx vs (SqT.of h1)
    rw [h3] at this
    cases this
    exact Rel.mid_new r rfl hT two_ok ⟨_, _, rfl, rfl, _, _, rfl, h4, rfl⟩
variable {te : TE} {t : TA} {QI : List E → Env → Prop} {K : PySem.W.Frag}
theorem Rel.refL (r : Rel B (.sh (.lst es) :: ρ) (some v :: σ) H) : ∃ p, v = .ref p := by
  obtain ⟨q, vs, e, _⟩ := r.val
  exact ⟨q, e⟩
theorem Rel.refT (r : Rel B (.sh (.tup es) :: ρ) (some v :: σ) H) : ∃ p, v = .ref p := by
  obtain ⟨q, vs, e, _⟩ := r.val
  exact ⟨q, e⟩
theorem p_ilist (k : pE X te ρ fun m ρ1 => ∃ es, m.frz = .sh (.lst es) ∧ QI es ρ1) : pI X (iList K te) ρ QI := fun B σ H R r x f =>
  k B σ H _ r x fun v m ρ1 H1 r1 ⟨es, em, q⟩ => by
    have r1 := r1.frz
    rw [em] at r1
    obtain ⟨p, rfl⟩ := Rel.refL r1
    obtain ⟨vs, h1, _⟩ := Rel.slotL r1
    exact ⟨p, rfl, ⟨vs, SqL.of h1⟩, f _ es [.sh (.lst es)] [some (.ref p)] ρ1 H1 rfl r1 (fun _ => itr_list) q⟩
theorem p_itup (k : pE X te ρ fun m ρ1 => ∃ es, m.frz = .sh (.tup es) ∧ QI es ρ1) : pI X (iTup K te) ρ QI := fun B σ H R r x f =>
  k B σ H _ r x fun v m ρ1 H1 r1 ⟨es, em, q⟩ => by
    have r1 := r1.frz
    rw [em] at r1
    obtain ⟨p, rfl⟩ := Rel.refT r1
    obtain ⟨vs, h1, _⟩ := Rel.slotT r1
    exact ⟨p, rfl, ⟨vs, SqT.of h1⟩, f _ es [.sh (.tup es)] [some (.ref p)] ρ1 H1 rfl r1 (fun _ => itr_tup) q⟩
theorem p_ior1 {w1 w2 : TI} (k : pI X w1 ρ QI) : pI X (iOr w1 w2) ρ QI := fun B σ H R r x f => .inl (k B σ H R r x f)
theorem p_ior2 {w1 w2 : TI} (k : pI X w2 ρ QI) : pI X (iOr w1 w2) ρ QI := fun B σ H R r x f => .inr (k B σ H R r x f)
theorem p_irng1 (k : pA X t ρ fun ms ρ1 => ∃ j, ms = [.sh (.int j)] ∧ -(2 ^ 62) ≤ j ∧ j < 2 ^ 62 ∧ QI (rng 0 j.toNat) ρ1) : pI X (iRng1 t) ρ QI := fun B σ H R r x f =>
  k B σ H _ r x fun vs ms ρ1 H1 hl r1 ⟨j, em, h1, h2, q⟩ => by
    subst em
    match vs, hl, r1 with
    | [v], _, r1 =>
      obtain rfl := Rel.int r1
      exact ⟨j, rfl, h1, h2, f _ _ [] [] ρ1 H1 rfl (Rel.tail r1) (fun _ => itr_range) q⟩
theorem p_irng2 (k : pA X t ρ fun ms ρ1 => ∃ i j, ms = [.sh (.int i), .sh (.int j)] ∧ (-(2 ^ 62) ≤ i ∧ i < 2 ^ 62 ∧ -(2 ^ 62) ≤ j ∧ j < 2 ^ 62) ∧ QI (rng i (j - i).toNat) ρ1) : pI X (iRng2 t) ρ QI := fun B σ H R r x f =>
  k B σ H _ r x fun vs ms ρ1 H1 hl r1 ⟨i, j, em, h1, q⟩ => by
    subst em
    match vs, hl, r1 with
    | [v, w], _, r1 =>
      obtain rfl := Rel.int r1
      obtain rfl := Rel.int (Rel.tail r1)
      exact ⟨i, j, rfl, h1, f _ _ [] [] ρ1 H1 rfl (Rel.tail (Rel.tail r1)) (fun _ => itr_range) q⟩
theorem p_ienum (k : pA X t ρ fun ms ρ1 => ∃ es, ms = [.sh (.lst es)] ∧ QI (enm es) ρ1) : pI X (iEnum K t) ρ QI := fun B σ H R r x f =>
  k B σ H _ r x fun vs ms ρ1 H1 hl r1 ⟨es, em, q⟩ => by
    subst em
    match vs, hl, r1 with
    | [v], _, r1 =>
      obtain ⟨p, rfl⟩ := Rel.refL r1
      obtain ⟨vs, h1, _⟩ := Rel.slotL r1
      exact ⟨p, vs, rfl, SqL.of h1, f _ _ [.sh (.lst es)] [some (.ref p)] ρ1 H1 rfl r1 (fun _ => itr_enum) q⟩
theorem p_ienumT (k : pA X t ρ fun ms ρ1 => ∃ es, ms = [.sh (.tup es)] ∧ QI (enm es) ρ1) : pI X (iEnumT K t) ρ QI := fun B σ H R r x f =>
  k B σ H _ r x fun vs ms ρ1 H1 hl r1 ⟨es, em, q⟩ => by
    subst em
    match vs, hl, r1 with
    | [v], _, r1 =>
      obtain ⟨p, rfl⟩ := Rel.refT r1
      obtain ⟨vs, h1, _⟩ := Rel.slotT r1
      exact ⟨p, vs, rfl, SqT.of h1, f _ _ [.sh (.tup es)] [some (.ref p)] ρ1 H1 rfl r1 (fun _ => itr_enumT) q⟩
/-- a for loop, by an invariant over the slots -/
theorem p_for {w : TI} {g : TG} {tb : TS} {P : Post} (Inv : List E → Nat → Env → Prop) (k : pI X w ρ fun es ρ1 => Inv es 0 ρ1 ∧ (∀ i e ρ, es[i]? = some e → Inv es i ρ → pG X g (.sh e) ρ fun ρ2 => pS X tb ρ2 ⟨Inv es (i + 1), P.rt, P.nx, Inv es (i + 1)⟩) ∧ ∀ ρ, Inv es es.length ρ → P.nx ρ) : pS X (tFor w g tb) ρ P := fun B σ H D r x ok =>
  k B σ H _ r x fun J es F Fσ ρ1 H1 hl r1 it ⟨h0, hs, hd⟩ => by
    refine ⟨fun i m σ H => i + m = es.length ∧ ∃ ρ, Rel B (F ++ ρ) (Fσ ++ σ) H ∧ Inv es i ρ, ⟨es.length, by omega, ρ1, r1, h0⟩, fun i m σ H ⟨hm, ρ, r2, hi⟩ => ?_⟩
    cases m with
    | zero =>
      have e : i = es.length := by omega
      subst e
      exact .inl ⟨(it B).stop ρ σ H r2, ok.nx ρ σ H (Rel.tails hl r2) (hd ρ hi)⟩
    | succ m =>
      have hlt : i < es.length := by omega
      obtain ⟨h1, h2⟩ := (it B).go i es[i] ρ σ H (List.getElem?_eq_getElem hlt) r2
      refine .inr ⟨h1, fun σ' H' => (i + 1) + m = es.length ∧ ∃ ρ, Rel B (F ++ ρ) (Fσ ++ σ') H' ∧ Inv es (i + 1) ρ, fun σ' H' h => ⟨m, by omega, h⟩, fun y H' hy => ?_⟩
      have r3 := h2 y H' hy
      refine hs i es[i] ρ (List.getElem?_eq_getElem hlt) hi _ σ H' y _ (r3.hide hl) (x.hide r3 hl) fun ρ4 σ4 H4 r4 q4 => ?_
      have r5 := r3.unhide hl r4
      refine q4 _ σ4 H4 _ (r5.hide hl) (x.hide r5 hl) ⟨fun ρ6 σ6 H6 r6 q6 => ⟨by omega, ρ6, r5.unhide hl r6, q6⟩, fun v m H6 r6 q6 => ?_, fun ρ6 σ6 H6 r6 q6 => ok.nx ρ6 σ6 H6 (Rel.tails hl (r5.unhide hl r6)) q6, fun ρ6 σ6 H6 r6 q6 => ⟨by omega, ρ6, r5.unhide hl r6, q6⟩⟩
      exact ok.rt v m H6 (Rel.tails hl (r5.unhide hl r6)) q6
end
end Pl

set_option Elab.async false
set_option linter.all false
set_option maxRecDepth 100000
set_option maxHeartbeats 4000000
/-! Pd: comprehensions, raise and try. -/
namespace Pl
open PySem L2 Gx PySem.Spec PyProof.Rows
def wipeM (ρ : Env) : List Nat → Env
  | [] => ρ
  | v :: vs => (wipeM ρ vs).set v .no
section
variable {X : XC} {ρ : Env} {B : Bs} {σ : L2.St} {H : Hp} {F : Env} {Fσ : L2.St} {e : E} {es : List E} {v : V} {m n : M} {x y : Option V}
theorem Rel.setNo (r : Rel B ρ σ H) (i : Nat) (x : Option V) : Rel B (ρ.set i .no) (σ.set i x) H := (r.pushNo x).set i
theorem Rel.wipe (r : Rel B ρ σ H) : ∀ vs, Rel B (wipeM ρ vs) (L2.wipe σ vs) H
  | [] => r
  | v :: vs => (Rel.wipe r vs).setNo v none
theorem wipeM_set : ∀ (vs : List Nat) (ρ : Env) (i : Nat), wipeM (ρ.set i .no) vs = (wipeM ρ vs).set i .no
  | [], _, _ => rfl
  | v :: vs, ρ, i => by
    show (wipeM (ρ.set i .no) vs).set v .no = ((wipeM ρ vs).set v .no).set i .no
    rw [wipeM_set vs ρ i]
    by_cases h : i = v
    · rw [h]
    · rw [List.set_comm _ _ h]
theorem Rel.unset {i : Nat} {z : Option V} (r : Rel B (ρ.set i .no) (σ.set i z) H) : Rel B (ρ.set i .no) σ H := by
  cases h : σ[i]? with
  | none =>
    have e : σ.set i z = σ := List.set_eq_of_length_le (List.getElem?_eq_none_iff.mp h)
    rw [e] at r; exact r
  | some u =>
    have r2 := r.setNo i u
    rw [List.set_set, List.set_set, set_self h] at r2
    exact r2
theorem Rel.unwipe : ∀ {vs : List Nat} {ρ : Env}, Rel B (wipeM ρ vs) (L2.wipe σ vs) H → Rel B (wipeM ρ vs) σ H
  | [], _, r => r
  | v :: vs, ρ, r => by
    have r2 : Rel B ((wipeM ρ vs).set v .no) (L2.wipe σ vs) H := Rel.unset r
    rw [← wipeM_set] at r2
    have r3 := Rel.unwipe r2
    rw [wipeM_set] at r3
    exact r3
theorem wipe_sub {σ : L2.St} {vs : List Nat} : ∀ {us : List Nat}, (∀ u ∈ us, u ∈ vs) → L2.wipe (L2.wipe σ us) vs = L2.wipe σ vs
  | [], _ => rfl
  | u :: us, h => by
    show L2.wipe ((L2.wipe σ us).set u none) vs = _
    rw [wipe_own (h u (List.mem_cons_self ..)), wipe_sub fun w hw => h w (List.mem_cons_of_mem _ hw)]
theorem wipe_wipe {σ : L2.St} {vs : List Nat} : L2.wipe (L2.wipe σ vs) vs = L2.wipe σ vs := wipe_sub fun _ h => h
theorem Rel.swap (r : Rel B (m :: n :: ρ) (x :: y :: σ) H) : Rel B (n :: m :: ρ) (y :: x :: σ) H := by
  have p : (owns (n :: m :: ρ) (y :: x :: σ)).Perm (owns (m :: n :: ρ) (x :: y :: σ)) := by
    show (own n y ++ (own m x ++ owns ρ σ)).Perm (own m x ++ (own n y ++ owns ρ σ))
    rw [← List.append_assoc, ← List.append_assoc]
    exact List.perm_append_comm.append_right _
  have sW : Same (wos (owns (m :: n :: ρ) (x :: y :: σ) ++ B.O1) H) (wos (owns (n :: m :: ρ) (y :: x :: σ) ++ B.O1) H) := wos_perm (p.append_right _)
  exact r.of (p.nodup_iff.mpr r.nd) (fun q h => p.mem_iff.mp h) ⟨r.sl.2.1.mono sW fun _ _ _ e => e, r.sl.1.mono sW fun _ _ _ e => e, r.sl.2.2.mono sW fun _ _ _ e => e⟩
/-- a value goes to the end of an owned list -/
theorem Rel.app {D : Addr} {acc : List E} (r : Rel B (.ow acc :: .sh e :: ρ) (some (.ref D) :: some v :: σ) H) (hz : acc.length < sizeLine) :
    ∃ vs, H D = some (.lst vs) ∧ vs.length < sizeLine ∧ Rel B (.ow (acc ++ [e]) :: ρ) (some (.ref D) :: σ) (upd H D (.lst (vs ++ [v]))) := by
  obtain ⟨q, vs, e1, h1, h2, h3⟩ := r.sl.1
  cases e1
  have hv := r.tail.val
  have h0 : vs.length < sizeLine := by rw [h3.length]; exact hz
  obtain ⟨w, e2, hw⟩ := r.sl.2.1
  cases e2
  refine ⟨vs, h1, h0, (r.swap.tail).write (List.mem_cons_self ..) rfl ⟨D, vs ++ [v], rfl, upd_same, by rw [List.length_append]; exact h0, h3.append (EvL.one hw)⟩⟩
end
/-- a list by a comprehension; Inv: of the items, the turn, what is made so far -/
theorem p_lc {X : XC} {ρ : Env} {Q : M → Env → Prop} {wi : TI} {g : TG} {tt : TT} {te : TE} {vs : List Nat} (Inv : List E → Nat → List E → Prop)
    (k : pI X wi ρ fun es ρ1 => es.length ≤ sizeLine ∧ Inv es 0 [] ∧ (∀ i e acc, es[i]? = some e → Inv es i acc → pC X vs g (.sh e) (wipeM ρ1 vs) fun ρ2 => pT X tt ρ2 fun b ρ3 =>
      if b = true then pE X te ρ3 fun m ρ4 => wipeM ρ4 vs = wipeM ρ1 vs ∧ ∃ e', m.frz = .sh e' ∧ Inv es (i + 1) (acc ++ [e']) else wipeM ρ3 vs = wipeM ρ1 vs ∧ Inv es (i + 1) acc) ∧ ∀ acc, Inv es es.length acc → Q (.ow acc) (wipeM ρ1 vs)) :
    pE X (tLc wi g tt te vs) ρ Q := fun B σ H R rel x f => k B σ H _ rel x fun J es F Fσ ρ1 H1 hl r1 it ⟨hz, h0, hs, hd⟩ => fun D hD => by
  have asc : ∀ (acc : List E) (m : M) (τ : Env), F ++ (M.ow acc :: m :: τ) = (F ++ [M.ow acc]) ++ (m :: τ) := fun acc m τ => by simp
  have ascσ : ∀ (z : Option V) (τ : L2.St), Fσ ++ (some (.ref D) :: z :: τ) = (Fσ ++ [some (.ref D)]) ++ (z :: τ) := fun z τ => by simp
  have hl2 : ∀ acc : List E, (F ++ [M.ow acc]).length = (Fσ ++ [some (V.ref D)]).length := fun acc => by simp [hl]
  refine ⟨fun i m H => i + m = es.length ∧ ∃ acc : List E, acc.length ≤ i ∧ Rel B (F ++ (.ow acc :: wipeM ρ1 vs)) (Fσ ++ (some (.ref D) :: L2.wipe σ vs)) H ∧ Inv es i acc,
    ⟨es.length, by omega, [], Nat.le_refl _, r1.unhide hl (((r1.hide hl).wipe vs).pushL hD (Nat.zero_le _) rfl), h0⟩, fun i m H2 ⟨hm, acc, ha, r2, hi⟩ => ?_⟩
  cases m with
  | zero =>
    have e : i = es.length := by omega
    subst e
    refine .inl ⟨(it B).stop _ _ H2 r2, ?_⟩
    have r3 := Rel.tails hl r2
    refine f _ (.ow acc) (wipeM ρ1 vs) H2 ?_ (hd acc hi)
    have r4 : Rel (B.hide (wipeM ρ1 vs) (L2.wipe σ vs) [.ow acc] [some (.ref D)] H2) (wipeM ρ1 vs) (L2.wipe σ vs) H2 := Rel.hide (ρf := [.ow acc]) (σf := [some (.ref D)]) r3 rfl
    exact Rel.unhide (ρf := [.ow acc]) (σf := [some (.ref D)]) r3 rfl r4.unwipe
  | succ m =>
    have hlt : i < es.length := by omega
    obtain ⟨h1, h2⟩ := (it B).go i es[i] _ _ H2 (List.getElem?_eq_getElem hlt) r2
    refine .inr ⟨h1, fun H' => (i + 1) + m = es.length ∧ ∃ acc : List E, acc.length ≤ i + 1 ∧ Rel B (F ++ (.ow acc :: wipeM ρ1 vs)) (Fσ ++ (some (.ref D) :: L2.wipe σ vs)) H' ∧ Inv es (i + 1) acc, fun H' h => ⟨m, by omega, h⟩, fun y H' hy => ?_⟩
    have r3 := h2 y H' hy
    have r4 : Rel B (F ++ (.ow acc :: .sh es[i] :: wipeM ρ1 vs)) (Fσ ++ (some (.ref D) :: some y :: L2.wipe σ vs)) H' := r3.unhide hl (r3.hide hl).swap
    rw [asc, ascσ] at r4
    refine hs i es[i] acc (List.getElem?_eq_getElem hlt) hi _ (L2.wipe σ vs) H' y _ (r4.hide (hl2 acc)) (x.hide r4 (hl2 acc)) fun ρ5 σ5 H5 ew r5 q5 => ⟨ew.trans wipe_wipe, ?_⟩
    have r6 := r4.unhide (hl2 acc) r5
    refine q5 _ σ5 H5 _ (r6.hide (hl2 acc)) (x.hide r6 (hl2 acc)) fun b ρ7 H7 r7 q7 => ?_
    have r8 := r6.unhide (hl2 acc) r7
    cases b with
    | true =>
      refine (show pE X te ρ7 _ from q7) _ σ5 H7 _ (r8.hide (hl2 acc)) (x.hide r8 (hl2 acc)) fun u m' ρ9 H9 r9 ⟨ew2, e', em, q9⟩ => ?_
      have r9 := r9.frz
      rw [em] at r9
      have r10 := r8.unhide (hl2 acc) r9
      rw [← asc, ← ascσ] at r10
      obtain ⟨vs', g1, g2, g3⟩ := (r10.hide hl).app (by omega)
      refine ⟨vs', g1, g2, by omega, acc ++ [e'], by rw [List.length_append]; simpa using ha, ?_, q9⟩
      have r11 := r10.unhide hl g3
      have r12 : Rel B (F ++ (.ow (acc ++ [e']) :: wipeM ρ9 vs)) (Fσ ++ (some (.ref D) :: L2.wipe σ5 vs)) (upd H9 D (.lst (vs' ++ [u]))) := by
        have a1 : Rel B ((F ++ [.ow (acc ++ [e'])]) ++ ρ9) ((Fσ ++ [some (.ref D)]) ++ σ5) (upd H9 D (.lst (vs' ++ [u]))) := by simpa using r11
        have a2 := a1.unhide (hl2 _) ((a1.hide (hl2 _)).wipe vs)
        simpa using a2
      rw [ew2, ew.trans wipe_wipe] at r12
      exact r12
    | false =>
      obtain ⟨ew2, q9⟩ := (show wipeM ρ7 vs = wipeM ρ1 vs ∧ Inv es (i + 1) acc from q7)
      refine ⟨by omega, acc, by omega, ?_, q9⟩
      have a2 := r8.unhide (hl2 _) ((r8.hide (hl2 _)).wipe vs)
      rw [ew2, ew.trans wipe_wipe] at a2
      simpa using a2
/-! ### raise, try -/
section
variable {X : XC} {ρ : Env} {P : Post} {C : Addr} {f : Str} {t : TA}
theorem p_raise0 (k : X.Qx ρ (.ref C) .none) : pS X (tRaise0 C X.W) ρ P := fun B σ H D r x ok => x.ex ρ σ H _ none .none r trivial k
theorem p_raise1 (k : pA X t ρ fun ms ρ1 => ∃ e, ms = [.sh e] ∧ X.Qx ρ1 (.ref C) (.one f e)) : pS X (tRaise1 C f X.W t) ρ P := fun B σ H D r x ok =>
  k B σ H _ r x fun vs ms ρ1 H1 hl r1 ⟨e, em, q⟩ => by
    subst em
    match vs, hl, r1 with
    | [v], _, r1 =>
      refine ⟨v, rfl, fun d H2 hd s h2 => ?_⟩
      have hv := Rel.val r1
      have r2 := (Rel.tail r1).grow s
      refine x.ex ρ1 σ H2 _ (some d) (.one f e) r2 ⟨v, h2, ?_⟩ q
      exact hv.mono (wos_same fun b o hb e => ⟨hb, s _ _ e⟩)
/-- the exception in hand, in its suite -/
def eX (a : Addr) : E := .pr fun _ v => v = .ref a
def inM (i : Option Nat) (a : Addr) (ρ : Env) : Env := match i with
  | none => ρ
  | some i => ρ.set i (.sh (eX a))
def unP (i : Option Nat) (P : Post) : Post := match i with
  | none => P
  | some i => ⟨fun ρ => P.nx (ρ.set i .no), P.rt, fun ρ => P.bk (ρ.set i .no), fun ρ => P.ct (ρ.set i .no)⟩
def noX (p : Option (Addr × Str × E)) : XC := ⟨fun _ _ _ _ => False, fun _ _ _ => False, p⟩
def pinOf : XD → Option Addr → Option (Addr × Str × E)
  | .one f e, some dd => some (dd, f, e)
  | _, _ => none
def hasD : XD → Option Addr → Prop
  | .none, d => d = none
  | .one _ _, d => ∃ dd, d = some dd
/-- what the clauses make of an exception -/
def pH (K : PySem.W.Frag) (X : XC) (P : Post) (ρ : Env) (cls : Value) (xd : XD) : List Clause → Prop
  | [] => X.Qx ρ cls xd
  | k :: r => ∃ b, PySem.W.exmOne K cls k.cls = some b ∧ (b = true → ∀ a d, hasD xd d → pS (noX (pinOf xd d)) (k.suite a cls d) (inM k.slot a ρ) (unP k.slot P)) ∧ (b = false → pH K X P ρ cls xd r)
theorem p_try {K : PySem.W.Frag} {tb : WX → TS} {l : List Clause} {Qx : Env → Value → XD → Prop} (k : ∀ W, pS ⟨W, Qx, X.pin⟩ (tb W) ρ P) (h : ∀ ρ' cls xd, Qx ρ' cls xd → pH K X P ρ' cls xd l) : pS X (tTryC K tb X.W l) ρ P := fun B σ H D r x ok => by
  refine k _ B σ H D r ⟨fun ρ' σ' H' cls d xd r' hd q => ?_, x.pn⟩ ok
  have hh := h ρ' cls xd q
  clear h q k
  induction l with
  | nil => exact x.ex ρ' σ' H' cls d xd r' hd hh
  | cons c l ih =>
    obtain ⟨b, e1, h1, h2⟩ := hh
    refine ⟨b, e1, fun eb a ha => ?_, fun eb => ih (h2 eb)⟩
    have hs := h1 eb a d (by
      cases d <;> cases xd <;> first
        | exact hd.elim
        | rfl
        | exact ⟨_, rfl⟩)
    -- the exception's dict is put aside
    have r2 : ∃ (Bp : Bs), Rel Bp ρ' σ' H' ∧ XOk Bp (noX (pinOf xd d)) ∧ ∀ {ρ2 : Env} {σ2 : L2.St} {H2 : Hp}, Rel Bp ρ2 σ2 H2 → Rel B ρ2 σ2 H2 := by
      refine ⟨B.hide ρ' σ' [] [] H', Rel.hide (ρf := []) (σf := []) r' rfl, ⟨fun _ _ _ _ _ _ _ _ z => z.elim, fun dd f e hp => ?_⟩, fun r4 => Rel.unhide (ρf := []) (σf := []) r' rfl r4⟩
      cases xd with
      | none => cases d <;> cases hp
      | one f' e' =>
        cases d with
        | none => cases hp
        | some d' =>
          cases hp
          obtain ⟨v, h5, h6⟩ := hd
          have nO : dd ∉ owns ρ' σ' := fun z => by
            have hs := r'.sl
            have gen : ∀ {ρ : Env} {σ : L2.St} {W : Hp}, Slots B.st H' W ρ σ → dd ∉ owns ρ σ := by
              intro ρ
              induction ρ with
              | nil => intro σ W _ hm; exact absurd hm (by simp [owns])
              | cons m ρ ih =>
                intro σ W hs hm
                cases σ with
                | nil => exact hs.elim
                | cons y σ =>
                  rcases List.mem_append.mp hm with h | h
                  · have h7 := hs.1
                    cases m with
                    | ow es =>
                      obtain ⟨q, vs, rfl, h8, _⟩ := h7
                      rw [List.mem_singleton.mp (show dd ∈ [q] from h)] at h5
                      rw [h8] at h5; cases h5
                    | od es =>
                      obtain ⟨q, vs, rfl, h8, _⟩ := h7
                      rw [List.mem_singleton.mp (show dd ∈ [q] from h)] at h5
                      rw [h8] at h5; cases h5
                    | ot es =>
                      obtain ⟨q, vs, rfl, h8, _⟩ := h7
                      rw [List.mem_singleton.mp (show dd ∈ [q] from h)] at h5
                      rw [h8] at h5; cases h5
                    | o2 q bs ess =>
                      obtain ⟨rfl, h8, _, h9⟩ := h7
                      rcases List.mem_cons.mp (show dd ∈ q :: bs from h) with z | z
                      · rw [z, h8] at h5; cases h5
                      · obtain ⟨vs, h10⟩ := h9.live dd z
                        rw [h10] at h5; cases h5
                    | bx b =>
                      obtain ⟨v, rfl, h8⟩ := h7
                      obtain ⟨o, h9, h10⟩ := b.live _ _ _ h8 dd h
                      rw [h9] at h5
                      rcases h10 with ⟨_, z⟩ | ⟨_, z⟩ | ⟨_, z⟩ | ⟨_, _, _, z⟩ | ⟨_, _, z⟩ <;> (rw [z] at h5; cases h5)
                    | pt q C dx fs =>
                      obtain ⟨rfl, fv, h8, _⟩ := h7
                      rw [List.mem_singleton.mp (show dd ∈ [q] from h)] at h5
                      rw [h8] at h5; cases h5
                    | no => cases y <;> exact absurd h (by simp [own])
                    | sh e => cases y <;> exact absurd h (by simp [own])
                    | sto => cases y <;> exact absurd h (by simp [own])
                  · exact ih hs.2 h
            exact gen hs z
          refine ⟨v, by show wos (owns ρ' σ') H' dd = _; rw [wos_out nO]; exact h5, fun c z => ?_, ?_⟩
          · obtain ⟨_, _, _, _, _, h9, _⟩ := (r'.sto dd c z).1
            rw [h5] at h9; cases h9
          · refine h6.mono (wos_same fun b o hb e => ⟨fun z => hb (List.mem_append_right _ ((List.mem_append.mp z).elim id fun w => absurd w (by simp [owns]))), ?_⟩)
            show wos (owns ρ' σ') H' b = _
            rw [wos_out fun z => hb (List.mem_append_left _ z)]
            exact e
    obtain ⟨Bp, r3, x3, back⟩ := r2
    cases hsl : c.slot with
    | none =>
      rw [hsl] at hs
      exact hs Bp σ' H' D r3 x3 ⟨fun ρ2 σ2 H2 r4 q => ok.nx ρ2 σ2 H2 (back r4) q, fun v m H2 r4 q => ok.rt v m H2 (back r4) q, fun ρ2 σ2 H2 r4 q => ok.bk ρ2 σ2 H2 (back r4) q, fun ρ2 σ2 H2 r4 q => ok.ct ρ2 σ2 H2 (back r4) q⟩
    | some i =>
      rw [hsl] at hs
      have r5 : Rel Bp (ρ'.set i (.sh (eX a))) (σ'.set i (some (.ref a))) H' := (r3.push (v := .ref a) (e := eX a) ⟨_, Same.refl _, rfl⟩).set i
      exact hs Bp _ H' _ r5 x3 ⟨fun ρ2 σ2 H2 r4 q => ok.nx _ _ H2 ((back r4).setNo i none) q, fun v m H2 r4 q => ok.rt v m H2 (back r4) q, fun ρ2 σ2 H2 r4 q => ok.bk _ _ H2 ((back r4).setNo i none) q, fun ρ2 σ2 H2 r4 q => ok.ct _ _ H2 ((back r4).setNo i none) q⟩
/-- e.f of the exception in hand -/
theorem p_xf {a dd : Addr} {f : Str} {e : E} {i : Nat} {Q : M → Env → Prop} (hp : X.pin = some (dd, f, e)) (h : ρ[i]? = some (.sh (eX a))) (k : Q (.sh e) ρ) : pE X (tXf a (.ref C) (some dd) C f (tVar i)) ρ Q := fun B σ H R r x ff => by
  obtain ⟨y, h1, h2⟩ := r.read h
  obtain ⟨_, _, rfl⟩ := h2.val
  obtain ⟨v, p1, p2, p3⟩ := x.pn dd f e hp
  have hdd := r.fr dd _ p2 p1
  refine ⟨_, h1, rfl, rfl, dd, [(f, v)], v, rfl, hdd, by simp [List.lookup], ff v _ ρ H (r.push (p3.mono (wos_same fun b o hb ho => ⟨fun z => (List.mem_append.mp z).elim (fun w => by rw [r.new b w] at ho; cases ho) hb, r.fr b o (fun c z => hb (r.sto b c z).2.1) ho⟩))) k⟩
end
end Pl

set_option Elab.async false
set_option linter.all false
set_option maxRecDepth 100000
set_option maxHeartbeats 4000000
/-! Pe: operators and built-ins over values seen whole. -/
namespace Pl
open PySem L2 Gx PySem.Spec PyProof.Rows
section
variable {Q : M → Prop} {K : PySem.W.Frag} {i j : Int} {s t : Str} {es fs : List E} {e : E}
theorem v_Ib {g : Int → Int → Bool} (k : Q (.sh (.bl (g i j)))) : p2 (rI0 fun i j => .bl (g i j)) (.sh (.int i)) (.sh (.int j)) Q := fun B ρ σ H x y R r f => by
  obtain rfl := r.int
  obtain rfl := r.tail.int
  exact ⟨i, j, rfl, rfl, f _ _ H (r.tail.tail.push (e := .bl (g i j)) rfl) k⟩
theorem v_Ii {g : Int → Int → Int} (k : Q (.sh (.int (g i j)))) : p2 (rI0 fun i j => .int (g i j)) (.sh (.int i)) (.sh (.int j)) Q := fun B ρ σ H x y R r f => by
  obtain rfl := r.int
  obtain rfl := r.tail.int
  exact ⟨i, j, rfl, rfl, f _ _ H (r.tail.tail.push (e := .int (g i j)) rfl) k⟩
theorem v_Ic {C : Int → Int → Prop} {g : Int → Int → Int} (c : C i j) (k : Q (.sh (.int (g i j)))) : p2 (rI C fun i j => .int (g i j)) (.sh (.int i)) (.sh (.int j)) Q := fun B ρ σ H x y R r f => by
  obtain rfl := r.int
  obtain rfl := r.tail.int
  exact ⟨i, j, rfl, rfl, c, f _ _ H (r.tail.tail.push (e := .int (g i j)) rfl) k⟩
theorem v_mod (c : 0 < j) (k : Q (.sh (.int (i % j)))) : p2 rMod (.sh (.int i)) (.sh (.int j)) Q := v_Ic (g := fun i j => i % j) c k
theorem v_or (k : Q (.sh (.int (Builtin.bitOr i j)))) : p2 rOr (.sh (.int i)) (.sh (.int j)) Q := v_Ii (g := fun i j => Builtin.bitOr i j) k
theorem v_and (k : Q (.sh (.int (Builtin.bitAnd i j)))) : p2 rAnd (.sh (.int i)) (.sh (.int j)) Q := v_Ii (g := fun i j => Builtin.bitAnd i j) k
theorem v_xor (k : Q (.sh (.int (Builtin.bitXor i j)))) : p2 rXor (.sh (.int i)) (.sh (.int j)) Q := v_Ii (g := fun i j => Builtin.bitXor i j) k
theorem v_shl {n : Nat} (c : CShl i (n : Int)) (k : Q (.sh (.int (i * 2 ^ n)))) : p2 rShl (.sh (.int i)) (.sh (.int (n : Int))) Q := fun B ρ σ H x y R r f => by
  obtain rfl := r.int
  obtain rfl := r.tail.int
  exact ⟨i, n, rfl, rfl, c, f _ _ H (r.tail.tail.push (e := .int (i * 2 ^ n)) rfl) k⟩
theorem v_shr {n : Nat} (k : Q (.sh (.int (i / 2 ^ n)))) : p2 rShr (.sh (.int i)) (.sh (.int (n : Int))) Q := fun B ρ σ H x y R r f => by
  obtain rfl := r.int
  obtain rfl := r.tail.int
  exact ⟨i, n, rfl, rfl, f _ _ H (r.tail.tail.push (e := .int (i / 2 ^ n)) rfl) k⟩
theorem v_neg (k : Q (.sh (.int (-i)))) : p1 (rU fun i => .int (-i)) (.sh (.int i)) Q := fun B ρ σ H x R r f => by
  obtain rfl := r.int
  exact ⟨i, rfl, f _ _ H (r.tail.push (e := .int (-i)) rfl) k⟩
theorem v_addI (k : Q (.sh (.int (i + j)))) : p2 (rAddG K) (.sh (.int i)) (.sh (.int j)) Q := fun B ρ σ H x y R r f => by
  obtain rfl := r.int
  obtain rfl := r.tail.int
  exact r_addI (f _ _ H (r.tail.tail.push (e := .int (i + j)) rfl) k)
theorem v_addL (h : es.length + fs.length ≤ sizeLine) (k : Q (.ow (es ++ fs))) : p2 (rAddG K) (.sh (.lst es)) (.sh (.lst fs)) Q := fun B ρ σ H x y R r f => by
  obtain ⟨p, rfl⟩ := r.refL
  obtain ⟨q, rfl⟩ := r.tail.refL
  obtain ⟨vs, h1, h2⟩ := r.slotL
  obtain ⟨ws, h3, h4⟩ := r.tail.slotL
  refine r_addL h1 h3 (by rw [h2.length, h4.length]; exact h) fun a ha => f _ _ _ (r.tail.tail.pushL ha (by rw [List.length_append, h2.length, h4.length]; exact h) ?_) k
  exact EvL.append h2 h4
theorem v_mulI (c : CMul i j) (k : Q (.sh (.int (i * j)))) : p2 rMulG (.sh (.int i)) (.sh (.int j)) Q := fun B ρ σ H x y R r f => by
  obtain rfl := r.int
  obtain rfl := r.tail.int
  exact r_mulI c (f _ _ H (r.tail.tail.push (e := .int (i * j)) rfl) k)
/-! ### equality of scalars -/
def eScal : E → Bool
  | .non | .bl _ | .int _ | .str _ => true
  | _ => false
def eScalEq : E → E → Option Bool
  | .non, .non => some true
  | .bl a, .bl b => some (a == b)
  | .int a, .int b => some (decide (a = b))
  | .str a, .str b => some (decide (a = b))
  | _, _ => none
theorem v_eqI (k : Q (.sh (.bl (decide (i = j))))) : p2 (rEqG K) (.sh (.int i)) (.sh (.int j)) Q := fun B ρ σ H x y R r f => by
  obtain rfl := r.int
  obtain rfl := r.tail.int
  refine r_eqS rfl ?_
  have e : decide (V.int i = V.int j) = decide (i = j) := by simp
  rw [e]
  exact f _ _ H (r.tail.tail.push (e := .bl (decide (i = j))) rfl) k
theorem v_neI (k : Q (.sh (.bl (!decide (i = j))))) : p2 (rNeG K) (.sh (.int i)) (.sh (.int j)) Q := fun B ρ σ H x y R r f => by
  obtain rfl := r.int
  obtain rfl := r.tail.int
  refine r_neS rfl ?_
  have e : decide (V.int i = V.int j) = decide (i = j) := by simp
  rw [e]
  exact f _ _ H (r.tail.tail.push (e := .bl (!decide (i = j))) rfl) k
/-! ### None -/
def isNon : E → Option Bool
  | .non => some true
  | .pr _ => none
  | _ => some false
theorem isNon_ok {H : Hp} {v : V} {b : Bool} (h : Ev H v e) (hb : isNon e = some b) : decide (v = .non) = b := by
  cases e with
  | non => rw [show v = .non from h]; cases hb; rfl
  | bl _ => rw [show v = .bl _ from h]; cases hb; rfl
  | int _ => rw [show v = .int _ from h]; cases hb; rfl
  | str _ => rw [show v = .str _ from h]; cases hb; rfl
  | lst _ => obtain ⟨p, _, rfl, _⟩ := h; cases hb; rfl
  | tup _ => obtain ⟨p, _, rfl, _⟩ := h; cases hb; rfl
  | dic _ => obtain ⟨p, _, rfl, _⟩ := h; cases hb; rfl
  | dit _ => obtain ⟨p, _, rfl, _⟩ := h; cases hb; rfl
  | ob _ _ => obtain ⟨p, _, _, rfl, _⟩ := h; cases hb; rfl
  | pr _ => cases hb
theorem v_isN {b : Bool} (h : isNon e = some b) (k : Q (.sh (.bl b))) : p2 (fun x y H Q => y = .non ∧ Q (.bl (decide (x = .non))) H) (.sh e) (.sh .non) Q := fun B ρ σ H x y R r f => by
  obtain rfl := r.tail.non
  refine ⟨rfl, ?_⟩
  rw [isNon_ok r.val h]
  exact f _ _ H (r.tail.tail.push (e := .bl b) rfl) k
theorem v_notN {b : Bool} (h : isNon e = some b) (k : Q (.sh (.bl (!b)))) : p2 (fun x y H Q => y = .non ∧ Q (.bl (!decide (x = .non))) H) (.sh e) (.sh .non) Q := fun B ρ σ H x y R r f => by
  obtain rfl := r.tail.non
  refine ⟨rfl, ?_⟩
  rw [isNon_ok r.val h]
  exact f _ _ H (r.tail.tail.push (e := .bl (!b)) rfl) k
/-! ### kinds -/
def tyE : E → Option String
  | .non => some "NoneType" | .bl _ => some "bool" | .int _ => some "int" | .str _ => some "str" | .lst _ => some "list" | .tup _ => some "tuple" | .dic _ => some "dict" | .dit _ => some "dict" | _ => none
theorem tyE_ok {H : Hp} {v : V} {a : String} (h : Ev H v e) (ha : tyE e = some a) : TyX K H v (.type a) := by
  cases e with
  | non => rw [show v = .non from h]; cases ha; exact .base .non
  | bl b => rw [show v = .bl b from h]; cases ha; exact .base (.bl b)
  | int i => rw [show v = .int i from h]; cases ha; exact .base (.int i)
  | str i => rw [show v = .str i from h]; cases ha; exact .base (.str i)
  | lst _ => obtain ⟨p, _, rfl, hp, _⟩ := h; cases ha; exact .base (.lst hp)
  | tup _ => obtain ⟨p, _, rfl, hp, _⟩ := h; cases ha; exact .base (.tup hp)
  | dic _ => obtain ⟨p, _, rfl, hp, _⟩ := h; cases ha; exact .base (.dK hp)
  | dit _ => obtain ⟨p, _, rfl, hp, _⟩ := h; cases ha; exact .base (.dT hp)
  | ob _ _ => cases ha
  | pr _ => cases ha
/-- the empty tuple that a default stands for -/
def empP (K : PySem.W.Frag) : Hp → V → Prop := fun _ v => ∃ a, v = .ref a ∧ Emp K a
/-- a value's type -/
def TyE (K : PySem.W.Frag) (e : E) (t : Value) : Prop := (∃ a, tyE e = some a ∧ t = .type a) ∨ (∃ C fs, e = .ob C fs ∧ InsK K C ∧ t = .ref C) ∨ (e = .pr (empP K) ∧ t = .type "tuple")
theorem TyE.ok {H : Hp} {v : V} {t : Value} (h : Ev H v e) (ht : TyE K e t) : TyX K H v t := by
  rcases ht with ⟨a, ha, rfl⟩ | ⟨C, P, rfl, hi, rfl⟩ | ⟨rfl, rfl⟩
  · exact tyE_ok h ha
  · obtain ⟨x, dx, fs, rfl, hx, _⟩ := h
    exact hi.ty hx
  · obtain ⟨H1, s, a, rfl, hm⟩ := h
    exact hm.ty H
theorem TyE.plain {a : String} (h : tyE e = some a) : TyE K e (.type a) := .inl ⟨a, h, rfl⟩
theorem p_isi {X : XC} {ρ : Env} {QE : M → Env → Prop} {te : TE} {b : String} (k : pE X te ρ fun m ρ1 => ∃ e t r, m.frz = .sh e ∧ TyE K e t ∧ PySem.W.kitOne K t (.type b) = some r ∧ QE (.sh (.bl r)) ρ1) : pE X (tCB (rIsiG K) (tCons te (tCons (tC (.ty b)) tNil))) ρ QE := fun B σ H R rel x f =>
  k B σ H _ rel x fun v m ρ1 H1 r1 ⟨e, t, r, em, ht, hk, q⟩ => by
    have r1 := r1.frz
    rw [em] at r1
    exact r_isiX (ht.ok r1.valH) hk (f _ _ ρ1 H1 (r1.tail.push (e := .bl r) rfl) q)
theorem p_isi2 {X : XC} {ρ : Env} {QE : M → Env → Prop} {te : TE} {b c : String} (k : pE X te ρ fun m ρ1 => ∃ e t r, m.frz = .sh e ∧ TyE K e t ∧ PySem.W.kitAny K t [.type b, .type c] = some r ∧ QE (.sh (.bl r)) ρ1) : pE X (tCB (rIsiG K) (tCons te (tCons (tTup (tCons (tC (.ty b)) (tCons (tC (.ty c)) tNil))) tNil))) ρ QE := fun B σ H R rel x f =>
  k B σ H _ rel x fun v m ρ1 H1 r1 ⟨e, t, r, em, ht, hk, q⟩ => by
    have r1 := r1.frz
    rw [em] at r1
    refine ⟨two_ok, fun p hp => ?_⟩
    have r2 := r1.grow (same_new (o := .tup [.ty b, .ty c]) hp)
    exact r_isi2X upd_same (ht.ok r2.valH) hk (f _ _ ρ1 _ (r2.tail.push (e := .bl r) rfl) q)
/-- isinstance(v, C), C a class of one's own -/
theorem p_isiC {X : XC} {ρ : Env} {QE : M → Env → Prop} {te : TE} {C : Addr} (k : pE X te ρ fun m ρ1 => ∃ e t r, m.frz = .sh e ∧ TyE K e t ∧ PySem.W.kitOne K t (.ref C) = some r ∧ QE (.sh (.bl r)) ρ1) : pE X (tCB (rIsiG K) (tCons te (tCons (tC (.ref C)) tNil))) ρ QE := fun B σ H R rel x f =>
  k B σ H _ rel x fun v m ρ1 H1 r1 ⟨e, t, r, em, ht, hk, q⟩ => by
    have r1 := r1.frz
    rw [em] at r1
    exact .inl ⟨_, _, t, .ref C, r, rfl, .own C, ht.ok r1.valH, hk, f _ _ ρ1 H1 (r1.tail.push (e := .bl r) rfl) q⟩
/-! ### lists, tuples -/
theorem v_lenL (k : Q (.sh (.int (es.length : Int)))) : pL (rLenG K) [.sh (.lst es)] Q := fun B ρ σ H vs R hl r f => by
  match vs, hl, r with
  | [v], _, r =>
    obtain ⟨p, rfl⟩ := Rel.refL r
    obtain ⟨ws, h1, h2⟩ := Rel.slotL r
    refine r_lenL h1 ?_
    rw [h2.length]
    exact f _ _ H ((Rel.tail r).push (e := .int _) rfl) k
theorem v_lenT (k : Q (.sh (.int (es.length : Int)))) : pL (rLenG K) [.sh (.tup es)] Q := fun B ρ σ H vs R hl r f => by
  match vs, hl, r with
  | [v], _, r =>
    obtain ⟨p, rfl⟩ := Rel.refT r
    obtain ⟨ws, h1, h2⟩ := Rel.slotT r
    refine r_lenT h1 ?_
    rw [h2.length]
    exact f _ _ H ((Rel.tail r).push (e := .int _) rfl) k
/-- len of an owned list: it stays one's own -/
theorem p_lenO {X : XC} {ρ : Env} {QE : M → Env → Prop} {n : Nat} (h : ρ[n]? = some (.ow es)) (k : QE (.sh (.int (es.length : Int))) ρ) : pE X (tCB (rLenG K) (tCons (tVar n) tNil)) ρ QE := fun B σ H R rel x f => by
  obtain ⟨y, hy, q, vs, rfl, h1, _, h3⟩ := rel.sl.at h
  refine ⟨_, hy, r_lenL h1 ?_⟩
  rw [h3.length]
  exact f _ _ ρ H (rel.push (e := .int _) rfl) k
theorem atI_ev {H : Hp} {vs : List V} (h : EvL H vs es) (he : atI es i = some e) : ∃ v, atI vs i = some v ∧ Ev H v e := by
  unfold atI at he ⊢
  rw [h.length]
  cases q : ixN es.length i with
  | none => rw [q] at he; cases he
  | some n => rw [q] at he; exact h.get he
theorem v_ixL (he : atI es i = some e) (k : Q (.sh e)) : p2 (rIx K) (.sh (.lst es)) (.sh (.int i)) Q := fun B ρ σ H x y R r f => by
  obtain ⟨p, rfl⟩ := r.refL
  obtain rfl := r.tail.int
  obtain ⟨ws, h1, h2⟩ := r.slotL
  obtain ⟨v, h3, h4⟩ := atI_ev h2 he
  exact r_ixL' h1 h3 (f _ _ H (r.tail.tail.push h4) k)
theorem v_ixT (he : atI es i = some e) (k : Q (.sh e)) : p2 (rIx K) (.sh (.tup es)) (.sh (.int i)) Q := fun B ρ σ H x y R r f => by
  obtain ⟨p, rfl⟩ := r.refT
  obtain rfl := r.tail.int
  obtain ⟨ws, h1, h2⟩ := r.slotT
  obtain ⟨v, h3, h4⟩ := atI_ev h2 he
  exact r_ixT' h1 h3 (f _ _ H (r.tail.tail.push h4) k)
theorem atI_nat' {α : Type} {xs : List α} {n : Nat} {x : α} (h : xs[n]? = some x) : atI xs (n : Int) = some x := by
  have hn := (List.getElem?_eq_some_iff.mp h).1
  unfold atI ixN
  rw [if_pos (by omega), if_pos (by omega)]
  simpa using h
/-- an item of an owned list -/
theorem p_ixO {X : XC} {ρ : Env} {QE : M → Env → Prop} {n : Nat} {tb : TE} (h : ρ[n]? = some (.ow es)) (k : pE X tb ρ fun m ρ1 => ∃ i e es', m.frz = .sh (.int i) ∧ ρ1[n]? = some (.ow es') ∧ atI es' i = some e ∧ QE (.sh e) ρ1) : pE X (tOp (rIx K) (tVar n) tb) ρ QE := fun B σ H R rel x f => by
  obtain ⟨y, hy, q, vs, rfl, h1, _, h3⟩ := rel.sl.at h
  refine ⟨_, hy, k B σ H _ rel x fun w m ρ1 H1 r1 ⟨i, e, es', em, h4, h5, q5⟩ => ?_⟩
  have r1 := r1.frz
  rw [em] at r1
  obtain rfl := r1.int
  obtain ⟨y2, hy2, q2, vs2, e2, g1, _, g3⟩ := r1.tail.sl.at h4
  rw [hy] at hy2
  cases hy2
  cases e2
  obtain ⟨v, h6, h7⟩ := atI_ev g3 h5
  exact r_ixL' g1 h6 (f _ _ ρ1 H1 (r1.tail.push h7) q5)
def cutE (es : List E) (lo hi : Option Int) : List E := (es.drop (HT.sIx es.length 0 lo)).take (HT.sIx es.length es.length hi - HT.sIx es.length 0 lo)
def pO (X : XC) (t : TO) (ρ : Env) (Q : Option Int → Env → Prop) : Prop := ∀ B σ H (R : Option Int → Hp → Prop), Rel B ρ σ H → XOk B X → (∀ o ρ' H', Rel B ρ' σ H' → Q o ρ' → R o H') → t σ H R
theorem v_listL (k : Q (.ow es)) : pL (rListG K) [.sh (.lst es)] Q := fun B ρ σ H vs R hl r f => by
  match vs, hl, r with
  | [v], _, r =>
    obtain ⟨p, rfl⟩ := Rel.refL r
    obtain ⟨p', ws, e1, g1, gz, g2⟩ := Rel.val r
    cases e1
    exact r_listL (SqL.of (wos_some g1).2) fun a ha => f _ _ _ ((Rel.tail r).pushL ha gz g2) k
theorem v_listT (k : Q (.ow es)) : pL (rListG K) [.sh (.tup es)] Q := fun B ρ σ H vs R hl r f => by
  match vs, hl, r with
  | [v], _, r =>
    obtain ⟨p, rfl⟩ := Rel.refT r
    obtain ⟨p', ws, e1, g1, gz, g2⟩ := Rel.val r
    cases e1
    exact r_listT (SqT.of (wos_some g1).2) fun a ha => f _ _ _ ((Rel.tail r).pushL ha gz g2) k
theorem v_tupL (k : Q (.sh (.tup es))) : pL (rTupG K) [.sh (.lst es)] Q := fun B ρ σ H vs R hl r f => by
  match vs, hl, r with
  | [v], _, r =>
    obtain ⟨p, rfl⟩ := Rel.refL r
    obtain ⟨p', ws, e1, g1, gz, g2⟩ := Rel.val r
    cases e1
    exact r_tupL (SqL.of (wos_some g1).2) fun a ha => f _ _ _ ((Rel.tail r).pushTup ha gz g2) k
theorem v_tupT (k : Q (.sh (.tup es))) : pL (rTupG K) [.sh (.tup es)] Q := fun B ρ σ H vs R hl r f => by
  match vs, hl, r with
  | [v], _, r =>
    obtain ⟨p, rfl⟩ := Rel.refT r
    obtain ⟨p', ws, e1, g1, gz, g2⟩ := Rel.val r
    cases e1
    exact r_tupT (SqT.of (wos_some g1).2) (f _ _ _ r k)
theorem v_int (k : Q (.sh (.int i))) : pL rInt1 [.sh (.int i)] Q := fun B ρ σ H vs R hl r f => by
  match vs, hl, r with
  | [v], _, r =>
    obtain rfl := Rel.int r
    exact r_int (f _ _ _ r k)
theorem v_max (k : Q (.sh (.int (if j > i then j else i)))) : pL rMax2' [.sh (.int i), .sh (.int j)] Q := fun B ρ σ H vs R hl r f => by
  match vs, hl, r with
  | [v, w], _, r =>
    obtain rfl := Rel.int r
    obtain rfl := Rel.int (Rel.tail r)
    exact r_max (f _ _ _ ((Rel.tail (Rel.tail r)).push (e := .int _) rfl) k)
theorem v_min (k : Q (.sh (.int (if j < i then j else i)))) : pL rMin2' [.sh (.int i), .sh (.int j)] Q := fun B ρ σ H vs R hl r f => by
  match vs, hl, r with
  | [v, w], _, r =>
    obtain rfl := Rel.int r
    obtain rfl := Rel.int (Rel.tail r)
    exact r_min (f _ _ _ ((Rel.tail (Rel.tail r)).push (e := .int _) rfl) k)
end
/-! ### an owned list is changed -/
section
variable {X : XC} {ρ : Env} {QE : M → Env → Prop} {te : TE} {K : PySem.W.Frag} {n : Nat} {es : List E}
theorem tyL {H : Hp} {p : Addr} {vs : List V} (h : H p = some (.lst vs)) : tyV K "list" (.ref p) H := .inl ⟨rfl, vs, SqL.of h⟩
/-- the slot n is written, another value stands in front -/
theorem Rel.at_write {B : Bs} {σ : L2.St} {H : Hp} {q : Addr} {vs' : List V} {es' : List E} (r : Rel B ρ σ H) (h : ρ[n]? = some (.ow es)) (hy : σ[n]? = some (some (.ref q))) (hz : vs'.length ≤ sizeLine) (he : EvL (wos (owns ρ σ ++ B.O1) H) vs' es') : Rel B (ρ.set n (.ow es')) σ (upd H q (.lst vs')) := by
  obtain ⟨x, hx, r2⟩ := r.take h
  rw [hy] at hx
  cases hx
  have pm : (owns (.ow es :: ρ.set n .no) (some (.ref q) :: σ)).Perm (owns ρ σ) := owns_take h hy
  have r3 := r2.write (q := q) (o := .lst vs') (m' := .ow es') (List.mem_cons_self ..) rfl ⟨q, vs', rfl, upd_same, hz, he.mono (wos_perm (pm.append_right _))⟩
  have r4 := r3.set n
  rw [List.set_set, set_self hy] at r4
  exact r4
theorem p_append (h : ρ[n]? = some (.ow es)) (k : pE X te ρ fun m ρ1 => ∃ e es', m.frz = .sh e ∧ ρ1[n]? = some (.ow es') ∧ es'.length < sizeLine ∧ QE (.sh .non) (ρ1.set n (.ow (es' ++ [e])))) : pE X (tBM K "list" rAppend (tVar n) (tCons te tNil)) ρ QE := fun B σ H R rel x f => by
  obtain ⟨y, hy, q, vs, rfl, h1, _, h3⟩ := rel.sl.at h
  refine ⟨_, hy, tyL h1, k B σ H _ rel x fun w m ρ1 H1 r1 ⟨e, es', em, h4, h5, q5⟩ => ?_⟩
  have r1 := r1.frz
  rw [em] at r1
  obtain ⟨y2, hy2, q2, vs2, e2, g1, g2, g3⟩ := r1.tail.sl.at h4
  rw [hy] at hy2
  cases hy2
  cases e2
  have hl : vs2.length < sizeLine := by rw [g3.length]; exact h5
  have r2 := r1.tail.at_write (vs' := vs2 ++ [w]) (es' := es' ++ [e]) h4 hy (by rw [List.length_append]; exact hl) (g3.append (EvL.one r1.val))
  exact ⟨q, vs2, w, rfl, rfl, g1, hl, f _ _ _ _ (r2.push (e := .non) rfl) q5⟩
theorem p_popAt (h : ρ[n]? = some (.ow es)) (k : pE X te ρ fun m ρ1 => ∃ (i : Nat) (e : E) (es' : List E), m.frz = .sh (.int (i : Int)) ∧ ρ1[n]? = some (.ow es') ∧ es'[i]? = some e ∧ QE (.sh e) (ρ1.set n (.ow (es'.eraseIdx i)))) : pE X (tBM K "list" rPopAt (tVar n) (tCons te tNil)) ρ QE := fun B σ H R rel x f => by
  obtain ⟨y, hy, q, vs, rfl, h1, _, h3⟩ := rel.sl.at h
  refine ⟨_, hy, tyL h1, k B σ H _ rel x fun w m ρ1 H1 r1 ⟨i, e, es', em, h4, h5, q5⟩ => ?_⟩
  have r1 := r1.frz
  rw [em] at r1
  obtain rfl := r1.int
  obtain ⟨y2, hy2, q2, vs2, e2, g1, g2, g3⟩ := r1.tail.sl.at h4
  rw [hy] at hy2
  cases hy2
  cases e2
  obtain ⟨v, g4, g5⟩ := g3.get h5
  have hi := (List.getElem?_eq_some_iff.mp g4).1
  have hz : vs2.length < 2 ^ 63 := Nat.lt_of_le_of_lt g2 (by decide)
  have r2 := r1.tail.at_write (vs' := vs2.eraseIdx i) (es' := es'.eraseIdx i) h4 hy (Nat.le_trans (List.length_eraseIdx_le ..) g2) (g3.erase i)
  have hk : seqIndex? (i : Int) vs2.length = some i := by
    unfold seqIndex?
    have e1 : (if (i : Int) < 0 then (i : Int) + (vs2.length : Int) else (i : Int)) = (i : Int) := if_neg (by omega)
    simp only [e1]
    rw [if_pos (by rw [decide_eq_true (by omega), decide_eq_true (by omega)]; rfl)]
    rfl
  have r3 : Rel B (.sh e :: ρ1.set n (.ow (es'.eraseIdx i))) (some v :: σ) (upd H1 q (.lst (vs2.eraseIdx i))) := by
    refine r2.push (g5.mono (wos_same fun b o hb ho => ?_))
    have pm : ∀ b ∈ owns (ρ1.set n (.ow (es'.eraseIdx i))) σ, b ∈ owns ρ1 σ := by
      intro b hb
      have := (owns_set n (ρ := ρ1) (σ := σ) (m := .ow (es'.eraseIdx i)) (x := some (.ref q)))
      obtain ⟨x, hx, r9⟩ := r1.tail.take h4
      rw [hy] at hx
      cases hx
      have pm2 : (owns (.ow es' :: ρ1.set n .no) (some (.ref q) :: σ)).Perm (owns ρ1 σ) := owns_take h4 hy
      have o := owns_set n (ρ := ρ1.set n .no) (σ := σ) (m := .ow (es'.eraseIdx i)) (x := some (.ref q)) (pm2.nodup_iff.mpr r1.tail.nd)
      rw [List.set_set, set_self hy] at o
      exact pm2.mem_iff.mp (o.2 b hb)
    have nq : b ≠ q := fun z => hb (List.mem_append_left _ (by rw [z]; exact own_at h4 hy q (List.mem_singleton.mpr rfl)))
    exact ⟨fun z => hb ((List.mem_append.mp z).elim (fun w => List.mem_append_left _ (pm b w)) fun w => List.mem_append_right _ w), (upd_ne nq).trans ho⟩
  exact ⟨q, vs2, i, i, v, rfl, rfl, g1, by omega, by omega, hk, g4, f _ _ _ _ r3 q5⟩
/-- xs[i] = v, xs owned -/
theorem p_gsub {ti : TE} {m : M} {QG : Env → Prop} (k : pE X ti ρ fun m' ρ1 => ∃ (i : Int) (j : Nat) (e : E) (es : List E), m' = .sh (.int i) ∧ m.frz = .sh e ∧ ρ1[n]? = some (.ow es) ∧ ixN es.length i = some j ∧ QG (ρ1.set n (.ow (es.set j e)))) (h : ∃ es, ρ[n]? = some (.ow es)) : pG X (gSub (tVar n) ti rSetL) m ρ QG := fun B σ H v R rel x f => by
  obtain ⟨es0, h⟩ := h
  have rel := rel.frz
  obtain ⟨y, hy, q, vs, rfl, h1, _, h3⟩ := rel.tail.sl.at h
  refine ⟨_, hy, k _ σ H _ (Rel.hide (ρf := [m.frz]) (σf := [some v]) rel rfl) (XOk.hide (ρf := [m.frz]) (σf := [some v]) x rel rfl) fun w m' ρ1 H1 r1 ⟨i, j, e, es, em, ee, h4, h5, q5⟩ => ?_⟩
  have r2 : Rel B (m.frz :: m' :: ρ1) (some v :: some w :: σ) H1 := Rel.unhide (ρf := [m.frz]) (σf := [some v]) rel rfl r1
  rw [ee] at r2
  subst em
  obtain rfl := r2.tail.int
  have r3 := r2.swap.tail
  obtain ⟨y2, hy2, q2, vs2, e2, g1, g2, g3⟩ := r3.tail.sl.at h4
  rw [hy] at hy2
  cases hy2
  cases e2
  have r4 := r3.tail.at_write (vs' := vs2.set j v) (es' := es.set j e) h4 hy (by rw [List.length_set]; exact g2) (g3.set r3.val j)
  exact ⟨q, vs2, i, j, rfl, rfl, g1, by rw [g3.length]; exact h5, f _ σ _ r4 q5⟩
end
end Pl

set_option Elab.async false
set_option linter.all false
set_option maxRecDepth 100000
set_option maxHeartbeats 4000000
/-! Pf: the steps of a pure reading. -/
namespace Pl
open PySem L2 Gx PySem.Spec PyProof.Rows
section
variable {X : XC} {ρ : Env} {n b c : Env → Prop} {rt : M → Prop} {s1 s2 : TS} {te ta tb : TE} {tt : TT} {Q : M → Env → Prop} {W : WX} {Qx : Env → Value → XD → Prop} {pin : Option (Addr × Str × E)} {C : Addr} {f : Str} {t : TA}
theorem q_seq (k : pS X s1 ρ ⟨fun ρ' => pS X s2 ρ' ⟨n, rt, b, c⟩, rt, b, c⟩) : pS X (tSeq s1 s2) ρ ⟨n, rt, b, c⟩ := p_seq k
theorem q_next (k : n ρ) : pS X tNext ρ ⟨n, rt, b, c⟩ := p_next k
theorem q_ret (k : pE X te ρ fun m _ => rt m) : pS X (tRet te) ρ ⟨n, rt, b, c⟩ := p_ret k
/-- an owned slot is handed back -/
theorem q_retO {i : Nat} {m : M} (h : ρ[i]? = some m) (hm : m ≠ .no) (k : rt m) : pS X (tRet (tVar i)) ρ ⟨n, rt, b, c⟩ := p_ret (p_move h hm k)
theorem q_drop (k : pE X te ρ fun _ ρ1 => n ρ1) : pS X (tDrop te) ρ ⟨n, rt, b, c⟩ := p_drop k
theorem q_asg {g : TG} (k : pE X te ρ fun m ρ1 => pG X g m ρ1 n) : pS X (tAsg te g) ρ ⟨n, rt, b, c⟩ := p_asg k
theorem q_if (k : pT X tt ρ fun x ρ1 => if x = true then pS X s1 ρ1 ⟨n, rt, b, c⟩ else pS X s2 ρ1 ⟨n, rt, b, c⟩) : pS X (tIfS tt s1 s2) ρ ⟨n, rt, b, c⟩ := p_if k
theorem q_raise0 {P : Post} (k : Qx ρ (.ref C) .none) : pS ⟨W, Qx, pin⟩ (tRaise0 C W) ρ P := p_raise0 (X := ⟨W, Qx, pin⟩) k
theorem q_raise1 {P : Post} (k : pA ⟨W, Qx, pin⟩ t ρ fun ms ρ1 => ∃ e, ms = [.sh e] ∧ Qx ρ1 (.ref C) (.one f e)) : pS ⟨W, Qx, pin⟩ (tRaise1 C f W t) ρ P := p_raise1 (X := ⟨W, Qx, pin⟩) k
theorem q_call {ct : Ct} {Ew : XK} (k : pA ⟨fun cls d _ H => Ew cls d H, Qx, pin⟩ t ρ fun ms ρ1 => ct.pre ms ∧ (∀ m, ct.post ms m → Q m ρ1) ∧ ∀ cls xd, ct.xp ms cls xd → Qx ρ1 cls xd) : pE ⟨fun cls d _ H => Ew cls d H, Qx, pin⟩ (tCall (spC ct) [] Ew t) ρ Q := p_call (X := ⟨fun cls d _ H => Ew cls d H, Qx, pin⟩) rfl k
theorem q_callS {ct : Ct} (k : pA ⟨W, Qx, pin⟩ t ρ fun ms ρ1 => ct.pre ms ∧ (∀ m, ct.post ms m → Q m ρ1) ∧ ∀ cls xd, ct.xp ms cls xd → Qx ρ1 cls xd) : pE ⟨W, Qx, pin⟩ (tCallS (spC ct) (fun σ => fun cls d H => W cls d σ H) t) ρ Q := p_callS (X := ⟨W, Qx, pin⟩) rfl k
theorem q_op {r : R2} (k : pE X ta ρ fun m ρ1 => pE X tb ρ1 fun n ρ2 => ∃ u v, m.frz = u ∧ n.frz = v ∧ p2 r u v fun o => Q o ρ2) : pE X (tOp r ta tb) ρ Q := p_op (k.mono fun m ρ1 q => q.mono fun n ρ2 ⟨u, v, e1, e2, q⟩ => by rw [e1, e2]; exact q)
theorem q_un {r : V → Hp → VK → Prop} (k : pE X ta ρ fun m ρ1 => ∃ u, m.frz = u ∧ p1 r u fun o => Q o ρ1) : pE X (tUn r ta) ρ Q := p_un (k.mono fun m ρ1 ⟨u, e1, q⟩ => by rw [e1]; exact q)
theorem q_cons {tr : TA} {QA : List M → Env → Prop} (k : pE X ta ρ fun m ρ1 => ∃ u, m.frz = u ∧ pA X tr ρ1 fun ms ρ2 => QA (u :: ms) ρ2) : pA X (tCons ta tr) ρ QA := p_cons (k.mono fun m ρ1 ⟨u, e1, q⟩ => by rw [e1]; exact q)
end
section
/-- the written members of a display -/
theorem shs0 {R : List E → Prop} (k : R []) : ∃ es, ([] : List M) = es.map M.sh ∧ R es := ⟨[], rfl, k⟩
theorem ex_bl {b : Bool} {R : Bool → Prop} (k : R b) : ∃ c, M.sh (.bl b) = .sh (.bl c) ∧ R c := ⟨b, rfl, k⟩
theorem ex_int {b : Int} {R : Int → Prop} (k : R b) : ∃ c, M.sh (.int b) = .sh (.int c) ∧ R c := ⟨b, rfl, k⟩
theorem ex_int1 {j : Int} {R : Int → Prop} (h1 : -(2 ^ 62) ≤ j) (h2 : j < 2 ^ 62) (k : R j) : ∃ j', [M.sh (.int j)] = [.sh (.int j')] ∧ -(2 ^ 62) ≤ j' ∧ j' < 2 ^ 62 ∧ R j' := ⟨j, rfl, h1, h2, k⟩
theorem ex_int2 {i j : Int} {R : Int → Int → Prop} (h : -(2 ^ 62) ≤ i ∧ i < 2 ^ 62 ∧ -(2 ^ 62) ≤ j ∧ j < 2 ^ 62) (k : R i j) : ∃ i' j', [M.sh (.int i), M.sh (.int j)] = [.sh (.int i'), .sh (.int j')] ∧ (-(2 ^ 62) ≤ i' ∧ i' < 2 ^ 62 ∧ -(2 ^ 62) ≤ j' ∧ j' < 2 ^ 62) ∧ R i' j' := ⟨i, j, rfl, h, k⟩
theorem ex_tup {m : M} {es : List E} {R : List E → Prop} (h : m.frz = .sh (.tup es)) (k : R es) : ∃ es', m.frz = .sh (.tup es') ∧ R es' := ⟨es, h, k⟩
theorem ex_sh {m : M} {e : E} {R : E → Prop} (h : m.frz = .sh e) (k : R e) : ∃ e', m.frz = .sh e' ∧ R e' := ⟨e, h, k⟩
theorem ex_one {e : E} {R : E → Prop} (k : R e) : ∃ e', [M.sh e] = [.sh e'] ∧ R e' := ⟨e, rfl, k⟩
theorem and_len {es : List E} {R : Prop} (h : Nat.ble es.length 1000 = true) (k : R) : es.length ≤ sizeLine ∧ R := ⟨Nat.le_trans (Nat.le_of_ble_eq_true h) (by decide), k⟩
/-- isinstance of a value of a known kind -/
theorem ex_ty {K : PySem.W.Frag} {m : M} {e : E} {a b : String} {r : Bool} {R : Bool → Prop} (h : m.frz = .sh e) (h1 : tyE e = some a) (h2 : kitB a b = some r) (k : R r) : ∃ e' t r', m.frz = .sh e' ∧ TyE K e' t ∧ PySem.W.kitOne K t (.type b) = some r' ∧ R r' := ⟨e, _, r, h, .plain h1, kit_ty h2, k⟩
theorem ex_ty2 {K : PySem.W.Frag} {m : M} {e : E} {a b c : String} {r : Bool} {R : Bool → Prop} (h : m.frz = .sh e) (h1 : tyE e = some a) (h2 : kitB2 a b c = some r) (k : R r) : ∃ e' t r', m.frz = .sh e' ∧ TyE K e' t ∧ PySem.W.kitAny K t [.type b, .type c] = some r' ∧ R r' := ⟨e, _, r, h, .plain h1, kit_ty2 h2, k⟩
end
/-! ### old promises as contracts -/
section
variable {B : Bs} {ρ : Env} {σ : L2.St} {H H' : Hp}
theorem Rel.sb (R : Rel B ρ σ H) {p c : Addr} (e : B.st = some (p, c)) (s : SB p H H') (S : Sto H' p c) : Rel B ρ σ H' where
  fr := fun b o h hb => s b o (fun z => h c (by rw [z]; exact e)) (R.fr b o h hb)
  sto := fun p' c' e' => by
    rw [e] at e'
    cases e'
    exact ⟨S, (R.sto p c e).2⟩
  ex := R.ex
  new := R.new
  nd := R.nd
  sl := R.sl.mono (wos_same fun b o hb ho => ⟨hb, s b o (fun z => hb (List.mem_append_right _ (by rw [z]; exact (R.sto p c e).2.1))) ho⟩) fun q hq o ho => s q o (fun z => R.notp hq c (by rw [z]; exact e)) ho
theorem Rel.stoAt {x : Option V} (R : Rel B (.sto :: ρ) (x :: σ) H) : ∃ p c, x = some (.ref p) ∧ B.st = some (p, c) ∧ Sto H p c := by
  obtain ⟨p, c, e, h⟩ := R.sl.1
  exact ⟨p, c, e, h, (R.sto p c h).1⟩
end
/-- the law's first row is behind us: the store stands at p -/
theorem p_start {X : XC} {t : TS} {ρ : Env} {σ : L2.St} {H : Hp} {D : Ends} {p c : Addr} (S : Sto H p c) (sl : Slots (some (p, c)) H (wos [p] H) ρ σ) (ho : owns ρ σ = []) (k : pS (noX none) t ρ ⟨fun _ => False, fun m => m = .sh (.bl true), fun _ => False, fun _ => False⟩)
    (hr : ∀ H', D.rt (.bl true) H') : t D σ H := by
  obtain ⟨cells, at', bank, mx, cnt, h1, h2, h3⟩ := id S
  have R0 : Rel ⟨H, [p], some (p, c)⟩ ρ σ H := {
    fr := fun b o _ e => e
    sto := fun p' c' e' => by
      cases e'
      exact ⟨S, List.mem_singleton.mpr rfl, by show H p ≠ none; rw [h1]; exact nofun, by show H c ≠ none; rw [h2]; exact nofun⟩
    ex := fun b hb => by
      rw [List.mem_singleton.mp hb]
      exact ⟨_, h1, .inl ⟨_, rfl⟩⟩
    new := fun q hq => by rw [ho] at hq; cases hq
    nd := by rw [ho]; exact List.nodup_nil
    sl := by rw [ho]; exact sl }
  refine k _ σ H D R0 ⟨fun _ _ _ _ _ _ _ _ z => z.elim, fun _ _ _ z => nomatch z⟩ ⟨fun _ _ _ _ z => z.elim, fun v m H' r q => ?_, fun _ _ _ _ z => z.elim, fun _ _ _ _ z => z.elim⟩
  subst q
  rw [r.bl]
  exact hr H'
end Pl

set_option Elab.async false
set_option linter.all false
set_option maxRecDepth 100000
set_option maxHeartbeats 4000000
/-! Pg: contracts by branches. -/
namespace Pl
open PySem L2 Gx PySem.Spec PyProof.Rows
structure Br where
  pre : Prop
  post : M → Prop
  xp : Value → XD → Prop := fun _ _ => False
def ctF (f : List M → Option Br) : Ct where
  pre := fun ms => ∃ b, f ms = some b ∧ b.pre
  post := fun ms m => ∃ b, f ms = some b ∧ b.post m
  xp := fun ms cls xd => ∃ b, f ms = some b ∧ b.xp cls xd
/-- one answer, no premise -/
abbrev brp (A : Prop) (m : M) : Br := ⟨A, fun r => r = m, fun _ _ => False⟩
abbrev br (m : M) : Br := brp True m
theorem p_bodyF {f : List M → Option Br} {N : List Str} {vs : List V} {H : Hp} {Q : VK} {E : XK} {t : TS} (h : spC (ctF f) vs H Q E)
    (k : ∀ ms b, f ms = some b → b.pre → pS ⟨fun cls d _ H => E cls d H, fun _ cls xd => b.xp cls xd, none⟩ t (ms ++ List.replicate (N.length - ms.length) .no) ⟨fun _ => b.post (.sh .non), b.post, fun _ => False, fun _ => False⟩) :
    t { nx := fun _ H' => Q .non H', rt := Q } (L2.start N vs) H := p_body h fun ms hl ⟨b, hf, hp⟩ => by
  intro B σ H D r x ok
  exact k ms b hf hp B σ H D r ⟨fun ρ σ H cls d xd r' hd q => x.ex ρ σ H cls d xd r' hd ⟨b, hf, q⟩, fun _ _ _ z => nomatch z⟩ ⟨fun ρ σ H r q => ok.nx ρ σ H r ⟨b, hf, q⟩, fun v m H r q => ok.rt v m H r ⟨b, hf, q⟩, ok.bk, ok.ct⟩
theorem spF_len {f : List M → Option Br} {n : Nat} (h : ∀ ms b, f ms = some b → ms.length = n) {vs : List V} {H : Hp} {Q : VK} {E : XK} (q : spC (ctF f) vs H Q E) : vs.length = n := spC_len (c := ctF f) (fun ms ⟨b, hf, _⟩ => h ms b hf) q
section
variable {X : XC} {ρ : Env} {Q : M → Env → Prop} {t : TA} {f : List M → Option Br} {Ew : XK} {W : WX} {Qx : Env → Value → XD → Prop} {pin : Option (Addr × Str × E)}
/-- a call of a def that raises nothing here -/
theorem q_call0 (k : pA X t ρ fun ms ρ1 => ∃ b, f ms = some b ∧ b.pre ∧ (∀ cls xd, ¬ b.xp cls xd) ∧ ∀ m, b.post m → Q m ρ1) : pE X (tCall (spC (ctF f)) [] Ew t) ρ Q := fun B σ H R rel x ff => by
  unfold tCall
  refine k B σ H _ rel x fun vs ms ρ1 H1 hl r1 ⟨b, h1, h2, h3, h4⟩ => ?_
  rw [List.append_nil]
  exact spC_use hl r1 ⟨b, h1, h2⟩ (fun v m H' r' ⟨b', h5, q⟩ => ff v m ρ1 H' r' (h4 m (by rw [h1] at h5; cases h5; exact q))) fun cls d xd H' _ _ ⟨b', h5, q⟩ => by
    rw [h1] at h5; cases h5; exact (h3 cls xd q).elim
theorem q_callX (k : pA ⟨fun cls d _ H => Ew cls d H, Qx, pin⟩ t ρ fun ms ρ1 => ∃ b, f ms = some b ∧ b.pre ∧ (∀ cls xd, b.xp cls xd → Qx ρ1 cls xd) ∧ ∀ m, b.post m → Q m ρ1) : pE ⟨fun cls d _ H => Ew cls d H, Qx, pin⟩ (tCall (spC (ctF f)) [] Ew t) ρ Q :=
  q_call fun B σ H R rel x ff => k B σ H R rel x fun vs ms ρ1 H1 hl r1 ⟨b, h1, h2, h3, h4⟩ => ff vs ms ρ1 H1 hl r1 ⟨⟨b, h1, h2⟩, fun m ⟨b', h5, q⟩ => h4 m (by rw [h1] at h5; cases h5; exact q), fun cls xd ⟨b', h5, q⟩ => h3 cls xd (by rw [h1] at h5; cases h5; exact q)⟩
theorem q_callT (k : pA ⟨W, Qx, pin⟩ t ρ fun ms ρ1 => ∃ b, f ms = some b ∧ b.pre ∧ (∀ cls xd, b.xp cls xd → Qx ρ1 cls xd) ∧ ∀ m, b.post m → Q m ρ1) : pE ⟨W, Qx, pin⟩ (tCallS (spC (ctF f)) (fun σ => fun cls d H => W cls d σ H) t) ρ Q :=
  q_callS fun B σ H R rel x ff => k B σ H R rel x fun vs ms ρ1 H1 hl r1 ⟨b, h1, h2, h3, h4⟩ => ff vs ms ρ1 H1 hl r1 ⟨⟨b, h1, h2⟩, fun m ⟨b', h5, q⟩ => h4 m (by rw [h1] at h5; cases h5; exact q), fun cls xd ⟨b', h5, q⟩ => h3 cls xd (by rw [h1] at h5; cases h5; exact q)⟩
/-- one answer -/
theorem cb1 {ms : List M} {m : M} {A : Prop} {R : M → Prop} (h1 : f ms = some (brp A m)) (h2 : A) (k : R m) : ∃ b, f ms = some b ∧ b.pre ∧ (∀ cls xd, ¬ b.xp cls xd) ∧ ∀ m, b.post m → R m := ⟨_, h1, h2, fun _ _ z => z, fun m' e => by rw [show m' = m from e]; exact k⟩
/-- several answers -/
theorem cbN {ms : List M} {A : Prop} {P R : M → Prop} (h1 : f ms = some ⟨A, P, fun _ _ => False⟩) (h2 : A) (k : ∀ m, P m → R m) : ∃ b, f ms = some b ∧ b.pre ∧ (∀ cls xd, ¬ b.xp cls xd) ∧ ∀ m, b.post m → R m := ⟨_, h1, h2, fun _ _ z => z, k⟩
variable {w : TI} {g : TG} {tb : TS} {n b c : Env → Prop} {rt : M → Prop}
theorem q_for (Inv : List E → Nat → Env → Prop) (k : pI X w ρ fun es ρ1 => Inv es 0 ρ1 ∧ (∀ i e ρ, es[i]? = some e → Inv es i ρ → pG X g (.sh e) ρ fun ρ2 => pS X tb ρ2 ⟨Inv es (i + 1), rt, n, Inv es (i + 1)⟩) ∧ ∀ ρ, Inv es es.length ρ → n ρ) : pS X (tFor w g tb) ρ ⟨n, rt, b, c⟩ := p_for Inv k
/-- a target (a, b, ..) -/
def pGs (X : XC) (g : TGs) (es : List E) (ρ : Env) (Q : Env → Prop) : Prop := ∀ B σ H vs (R : L2.St → Hp → Prop), Rel B ρ σ H → XOk B X → EvL (wos (owns ρ σ ++ B.O1) H) vs es → (∀ ρ' σ' H', Rel B ρ' σ' H' → Q ρ' → R σ' H') → g vs σ H R
theorem p_gtup {K : PySem.W.Frag} {m : M} {gs : TGs} {N : Nat} {QG : Env → Prop} (k : ∃ es, m.frz = .sh (.tup es) ∧ es.length = N ∧ pGs X gs es ρ QG) : pG X (gTup K N gs) m ρ QG := fun B σ H v R r x ff => by
  obtain ⟨es, em, hN, q⟩ := k
  have r := r.frz
  rw [em] at r
  obtain ⟨p, rfl⟩ := r.refT
  obtain ⟨p', vs, e1, g1, gz, g2⟩ := r.val
  cases e1
  exact ⟨p, vs, rfl, SqT.of (wos_some g1).2, g2.length.trans hN, q B σ H vs R r.tail x g2 ff⟩
theorem p_gnil {QG : Env → Prop} (k : QG ρ) : pGs X gNil [] ρ QG := fun B σ H vs R r x h ff => ⟨h, ff ρ σ H r k⟩
theorem p_gcons {g : TG} {gs : TGs} {e : E} {es : List E} {QG : Env → Prop} (i : Nat) (hg : g = gName i) (k : pGs X gs es (ρ.set i (.sh e)) QG) : pGs X (gCons g gs) (e :: es) ρ QG := fun B σ H vs R r x h ff => by
  obtain ⟨v, ws, rfl, h1, h2⟩ := h
  subst hg
  have r2 := (r.push h1).set i
  refine ⟨v, ws, rfl, k B _ H ws R r2 x ?_ ff⟩
  have o := owns_set i (ρ := ρ) (σ := σ) (m := .sh e) (x := some v) r.nd
  exact h2.mono (wos_less fun b hb => (List.mem_append.mp hb).elim (fun z => List.mem_append_left _ (o.2 b z)) fun z => List.mem_append_right _ z)
def pCs (X : XC) (us : List Nat) (g : TGs) (es : List E) (ρ : Env) (Q : Env → Prop) : Prop := ∀ B σ H vs (R : L2.St → Hp → Prop), Rel B ρ σ H → XOk B X → EvL (wos (owns ρ σ ++ B.O1) H) vs es → (∀ ρ' σ' H', L2.wipe σ' us = L2.wipe σ us → Rel B ρ' σ' H' → Q ρ' → R σ' H') → g vs σ H R
end
section
variable {X : XC} {ρ : Env} {Q : M → Env → Prop} {ta tb tc : TE} {g g' : Int → Int → Bool}
theorem q_chain (k : pE X ta ρ fun m ρ1 => pE X tb ρ1 fun n ρ2 => ∃ i j, m = .sh (.int i) ∧ n = .sh (.int j) ∧ if g i j = true then pE X tc ρ2 (fun o ρ3 => ∃ l, o = .sh (.int l) ∧ Q (.sh (.bl (g' j l))) ρ3) else Q (.sh (.bl false)) ρ2) : pE X (tChain (rI0 fun i j => .bl (g i j)) (rI0 fun i j => .bl (g' i j)) ta tb tc) ρ Q :=
  p_chain (g := g) (g' := g') (fun i j H Q q => ⟨i, j, rfl, rfl, q⟩) (fun i j H Q q => ⟨i, j, rfl, rfl, q⟩) k
theorem ex_ii {i j : Int} {R : Int → Int → Prop} (k : R i j) : ∃ i' j', M.sh (.int i) = .sh (.int i') ∧ M.sh (.int j) = .sh (.int j') ∧ R i' j' := ⟨i, j, rfl, rfl, k⟩
end
section
variable {a b : E} {es fs : List E} {R : M → M → Prop} {S : M → Prop}
theorem fzSS (k : R (.sh a) (.sh b)) : ∃ u v, (M.sh a).frz = u ∧ (M.sh b).frz = v ∧ R u v := ⟨_, _, rfl, rfl, k⟩
theorem fzSO (k : R (.sh a) (.sh (.lst fs))) : ∃ u v, (M.sh a).frz = u ∧ (M.ow fs).frz = v ∧ R u v := ⟨_, _, rfl, rfl, k⟩
theorem fzOO (k : R (.sh (.lst es)) (.sh (.lst fs))) : ∃ u v, (M.ow es).frz = u ∧ (M.ow fs).frz = v ∧ R u v := ⟨_, _, rfl, rfl, k⟩
theorem fzS (k : S (.sh a)) : ∃ u, (M.sh a).frz = u ∧ S u := ⟨_, rfl, k⟩
theorem fzO (k : S (.sh (.lst es))) : ∃ u, (M.ow es).frz = u ∧ S u := ⟨_, rfl, k⟩
theorem fzT (k : S .sto) : ∃ u, M.sto.frz = u ∧ S u := ⟨_, rfl, k⟩
theorem fzD {kvs : List (L2.Key × E)} (k : S (.sh (.dic kvs))) : ∃ u, (M.od kvs).frz = u ∧ S u := ⟨_, rfl, k⟩
end
end Pl

set_option Elab.async false
set_option linter.all false
set_option maxRecDepth 100000
set_option maxHeartbeats 4000000
/-! Ph: what the laws of this house share. -/
set_option exponentiation.threshold 20000
namespace Pl
open PySem L2 Gx PySem.Spec PyProof.Rows
/-- an int within bounds -/
def inRE (lo hi : Int) : E → Bool
  | .int i => decide (lo ≤ i) && decide (i ≤ hi)
  | _ => false
def isIntE : E → Bool
  | .int _ => true
  | _ => false
def isSeqE : E → Bool
  | .lst _ => true
  | .tup _ => true
  | .pr _ => true
  | _ => false
/-- a value whose kind is known -/
def kn (K : PySem.W.Frag) : E → Prop
  | .ob C _ => InsK K C
  | .pr P => P = empP K
  | _ => True
section
variable {K : PySem.W.Frag} {m : M} {C : Addr} {P : List (Str × E)}
theorem ex_tyA {b : String} {R : Bool → Prop} (h : m.frz = .sh (.ob C P)) (hi : InsK K C) (hb : b ∈ ["int", "bool", "str", "dict", "list", "tuple"]) (k : R false) : ∃ e' t r', m.frz = .sh e' ∧ TyE K e' t ∧ PySem.W.kitOne K t (.type b) = some r' ∧ R r' := ⟨_, _, false, h, .inr (.inl ⟨C, P, rfl, hi, rfl⟩), hi.no b hb, k⟩
theorem ex_tyA2 {R : Bool → Prop} (h : m.frz = .sh (.ob C P)) (hi : InsK K C) (k : R false) : ∃ e' t r', m.frz = .sh e' ∧ TyE K e' t ∧ PySem.W.kitAny K t [.type "list", .type "tuple"] = some r' ∧ R r' := ⟨_, _, false, h, .inr (.inl ⟨C, P, rfl, hi, rfl⟩), hi.seq, k⟩
theorem ex_tyP {b : String} {r : Bool} {R : Bool → Prop} (h : m.frz = .sh (.pr (empP K))) (h2 : kitB "tuple" b = some r) (k : R r) : ∃ e' t r', m.frz = .sh e' ∧ TyE K e' t ∧ PySem.W.kitOne K t (.type b) = some r' ∧ R r' := ⟨_, _, r, h, .inr (.inr ⟨rfl, rfl⟩), kit_ty h2, k⟩
theorem ex_tyP2 {b c : String} {r : Bool} {R : Bool → Prop} (h : m.frz = .sh (.pr (empP K))) (h2 : kitB2 "tuple" b c = some r) (k : R r) : ∃ e' t r', m.frz = .sh e' ∧ TyE K e' t ∧ PySem.W.kitAny K t [.type b, .type c] = some r' ∧ R r' := ⟨_, _, r, h, .inr (.inr ⟨rfl, rfl⟩), kit_ty2 h2, k⟩
end
/-! ### dict displays -/
section
variable {X : XC} {ρ : Env} {Q : M → Env → Prop} {tk tv : TE}
theorem p_dnewK (k : Q (.od []) ρ) : pE X tDNewK ρ Q := fun B σ H R r x f => fun p hp => f _ _ ρ _ (r.pushD (es := []) hp (Nat.zero_le _) rfl) k
theorem p_dnewT (k : Q (.ot []) ρ) : pE X tDNewT ρ Q := fun B σ H R r x f => fun p hp => f _ _ ρ _ (r.pushT (es := []) hp (Nat.zero_le _) rfl) k
theorem p_disp1 (mono : ∀ σ H R R', (∀ x H1, R x H1 → R' x H1) → tk σ H R → tk σ H R') (mono2 : ∀ σ H R R', (∀ x H1, R x H1 → R' x H1) → tv σ H R → tv σ H R')
    (k : pE X tk ρ fun m ρ1 => pE X tv ρ1 fun n ρ2 => ∃ (kk : L2.Key) (e : E), m = .sh (match kk with
      | .inl i => .int i
      | .inr s => .str s) ∧ n.frz = .sh e ∧ Q (.od [(kk, e)]) ρ2) : pE X (tDisp [(tk, tv)]) ρ Q := fun B σ H R r x f => e_disp1 (fun p hp => by
  have r1 : Rel B (.od [] :: ρ) (some (.ref p) :: σ) (upd H p (.dK [])) := r.pushD (es := []) hp (Nat.zero_le _) rfl
  refine k _ σ _ _ (Rel.hide (ρf := [.od []]) (σf := [some (.ref p)]) r1 rfl) (XOk.hide (ρf := [.od []]) (σf := [some (.ref p)]) x r1 rfl) fun v m ρ1 H1 r2 q2 => ?_
  have r3 : Rel B (.od [] :: m :: ρ1) (some (.ref p) :: some v :: σ) H1 := Rel.unhide (ρf := [.od []]) (σf := [some (.ref p)]) r1 rfl r2
  have r4 : Rel B ([.od [], m] ++ ρ1) ([some (.ref p), some v] ++ σ) H1 := r3
  refine q2 _ σ H1 _ (r4.hide rfl) (x.hide r4 rfl) fun w n ρ2 H2 r5 ⟨kk, e, em, en, q⟩ => ?_
  have r6 := r4.unhide rfl (Rel.frz r5)
  rw [en] at r6
  subst em
  have r7 : Rel B (.od [] :: .sh _ :: .sh e :: ρ2) (some (.ref p) :: some v :: some w :: σ) H2 := r6
  obtain ⟨q', ks, e1, h1, h2, h3⟩ := r7.sl.1
  cases e1
  have ek : ks = [] := h3
  subst ek
  have ev : v = kV kk := by
    have := r7.tail.val
    cases kk with
    | inl i => exact this
    | inr s => exact this
  refine ⟨h1, kk, ev, ?_⟩
  have r8 := r7.swap.tail
  obtain ⟨w', ew, hw⟩ := r7.sl.2.2.1
  cases ew
  have r9 := (r8.swap.tail).write (q := p) (o := .dK [(kk, w)]) (m' := .od [(kk, e)]) (List.mem_cons_self ..) rfl ⟨p, [(kk, w)], rfl, upd_same, (by show 1 ≤ sizeLine; decide), ⟨w, [], rfl, hw, rfl⟩⟩
  exact f _ _ ρ2 _ r9 q) mono mono2
end
theorem at_in {α : Type} {es : List α} {t : Int} (h0 : 0 ≤ t) (h1 : t < es.length) : ∃ e, atI es t = some e ∧ e ∈ es := by
  obtain ⟨n, rfl⟩ := Int.eq_ofNat_of_zero_le h0
  have hn : n < es.length := by omega
  exact ⟨es[n], atI_nat' (List.getElem?_eq_getElem hn), List.getElem_mem hn⟩
/-- the odd values of this house -/
def oddE : List E := [.non, .bl true, .bl false, .str "", .str "0", .str "1", .lst [], .tup [], .lst [.int 0], .tup [.int 0], .dic [], .dic [(.inr "0", .int 0)], .lst [.non], .str "web 1"]
def noSeqE : List E := [.non, .int 0, .int 1, .int (-1), .bl true, .bl false, .str "", .str "ab", .dic [], .dic [(.inl 0, .int 1)], .dic [(.inr "0", .lst [.int 0])], .str "0 1"]
theorem shsC {a : E} {ms : List M} {R : List E → Prop} (k : ∃ es, ms = es.map M.sh ∧ R (a :: es)) : ∃ es, M.sh a :: ms = es.map M.sh ∧ R es := by
  obtain ⟨es, rfl, k⟩ := k
  exact ⟨a :: es, rfl, k⟩
theorem ex_keyS {n : M} {s : Str} {e : E} {R : L2.Key → E → Prop} (h : n.frz = .sh e) (k : R (.inr s) e) : ∃ (kk : L2.Key) (e' : E), M.sh (.str s) = .sh (match kk with
      | .inl i => .int i
      | .inr s => .str s) ∧ n.frz = .sh e' ∧ R kk e' := ⟨.inr s, e, rfl, h, k⟩
theorem ix_ex {ρ1 : Env} {n : Nat} {m : M} {i : Int} {es : List E} {e : E} {R : E → Prop} (hm : m.frz = .sh (.int i)) (h : ρ1[n]? = some (.ow es)) (he : atI es i = some e) (k : R e) : ∃ i e es', m.frz = .sh (.int i) ∧ ρ1[n]? = some (.ow es') ∧ atI es' i = some e ∧ R e := ⟨i, e, es, hm, h, he, k⟩
theorem rng_len {lo : Int} {n : Nat} : (rng lo n).length = n := by
  unfold rng
  rw [List.length_map, List.length_range]
theorem rng_at {lo : Int} {n i : Nat} {e : E} (h : (rng lo n)[i]? = some e) : i < n ∧ e = .int (lo + i) := by
  have hi := (List.getElem?_eq_some_iff.mp h).1
  rw [rng_len] at hi
  unfold rng at h
  rw [List.getElem?_map, List.getElem?_range hi] at h
  exact ⟨hi, (Option.some.inj h).symm⟩
theorem small8 {n : Int} (h : n.natAbs < 2 ^ 64) : n.natAbs < 2 ^ 8000 := Nat.lt_trans h (by decide)
theorem small7 {n : Int} (h : n.natAbs < 2 ^ 64) : n.natAbs < 2 ^ 7000 := Nat.lt_trans h (by decide)
theorem p_varW {X : XC} {ρ : Env} {Q : M → Env → Prop} {i : Nat} {es : List E} (h : ρ[i]? = some (.ow es)) (k : Q (.sh (.lst es)) (ρ.set i (.sh (.lst es)))) : pE X (tVar i) ρ Q := p_varO (m := .ow es) h nofun k
theorem p_varW2 {X : XC} {ρ : Env} {Q : M → Env → Prop} {i : Nat} {q : Addr} {bs : List Addr} {ess : List (List E)} (h : ρ[i]? = some (.o2 q bs ess)) (k : Q (.sh (.lst (ess.map E.lst))) (ρ.set i (.sh (.lst (ess.map E.lst))))) : pE X (tVar i) ρ Q := p_varO (m := .o2 q bs ess) h nofun k
end Pl

set_option Elab.async false
set_option linter.all false
set_option maxRecDepth 100000
set_option maxHeartbeats 4000000
/-! Pi: objects. -/
namespace Pl
open PySem L2 Gx PySem.Spec PyProof.Rows
def putE (f : Str) (e : E) : List (Str × E) → List (Str × E)
  | [] => [(f, e)]
  | (g, x) :: r => if g = f then (g, e) :: r else (g, x) :: putE f e r
theorem EvF.put {H : Hp} {f : Str} {v : V} {e : E} (h : Ev H v e) : ∀ {fs : List (Str × E)} {fv : List (Str × V)}, EvF H fv fs → EvF H (putF f v fv) (putE f e fs)
  | [], fv, q => by
    rw [show fv = [] from q]
    exact ⟨v, [], rfl, h, rfl⟩
  | (g, x) :: fs, _, ⟨w, r, rfl, q, t⟩ => by
    show EvF H (if g = f then (g, v) :: r else (g, w) :: putF f v r) (if g = f then (g, e) :: fs else (g, x) :: putE f e fs)
    by_cases hg : g = f
    · rw [if_pos hg, if_pos hg]
      exact ⟨v, r, rfl, h, t⟩
    · rw [if_neg hg, if_neg hg]
      exact ⟨w, _, rfl, q, EvF.put h t⟩
theorem EvF.len {H : Hp} : ∀ {fs : List (Str × E)} {fv : List (Str × V)}, EvF H fv fs → fv.length = fs.length
  | [], fv, q => by rw [show fv = [] from q]; rfl
  | (_, _) :: _, _, ⟨v, r, e, _, t⟩ => by rw [e, List.length_cons, List.length_cons, EvF.len t]
theorem EvF.look {H : Hp} {f : Str} {e : E} : ∀ {fs : List (Str × E)} {fv : List (Str × V)}, EvF H fv fs → fs.lookup f = some e → ∃ v, fv.lookup f = some v ∧ Ev H v e
  | [], _, _, h => by simp at h
  | (g, x) :: fs, _, ⟨w, r, rfl, q, t⟩, h => by
    by_cases hg : f = g
    · subst hg
      rw [List.lookup_cons_self] at h ⊢
      cases h
      exact ⟨w, rfl, q⟩
    · have hb : (f == g) = false := beq_eq_false_iff_ne.mpr hg
      simp only [List.lookup, hb] at h ⊢
      exact EvF.look t h
theorem EvF.none {H : Hp} {f : Str} : ∀ {fs : List (Str × E)} {fv : List (Str × V)}, EvF H fv fs → fs.lookup f = Option.none → fv.lookup f = Option.none
  | [], fv, q, _ => by rw [show fv = [] from q]; rfl
  | (g, x) :: fs, _, ⟨w, r, rfl, q, t⟩, h => by
    by_cases hg : f = g
    · subst hg
      rw [List.lookup_cons_self] at h
      cases h
    · have hb : (f == g) = false := beq_eq_false_iff_ne.mpr hg
      simp only [List.lookup, hb] at h ⊢
      exact EvF.none t h
/-- what __init__ asks, leaves, raises -/
structure BrI where
  pre : Prop
  fl : List (Str × E) → Prop
  xp : Value → XD → Prop := fun _ _ => False
def spI (C : Addr) (f : List M → Option BrI) : Sp := fun vs H Q E => ∃ x dx ws B ms b, vs = .ref x :: ws ∧ ms.length = ws.length ∧ Rel B (.pt x C dx [] :: ms) (some (.ref x) :: ws.map some) H ∧ f ms = some b ∧ b.pre ∧
  (∀ fs H', Rel B [.pt x C dx fs] [some (.ref x)] H' → b.fl fs → Q .non H') ∧ (∀ cls d xd H', Rel B [] [] H' → XDat B [] [] H' d xd → b.xp cls xd → E cls d H')
theorem spI_len {C : Addr} {f : List M → Option BrI} {n : Nat} (h : ∀ ms b, f ms = some b → ms.length + 1 = n) {vs : List V} {H : Hp} {Q : VK} {E : XK} (q : spI C f vs H Q E) : vs.length = n := by
  obtain ⟨x, dx, ws, B, ms, b, rfl, hl, _, hf, _⟩ := q
  rw [List.length_cons, ← hl]
  exact h ms b hf
/-- __init__'s body -/
theorem p_init {C : Addr} {f : List M → Option BrI} {N : List Str} {vs : List V} {H : Hp} {Q : VK} {E : XK} {t : TS} (h : spI C f vs H Q E)
    (k : ∀ x dx ms b, f ms = some b → b.pre → pS ⟨fun cls d _ H => E cls d H, fun _ cls xd => b.xp cls xd, none⟩ t (.pt x C dx [] :: (ms ++ List.replicate (N.length - (ms.length + 1)) .no)) ⟨fun ρ => ∃ fs r, ρ = .pt x C dx fs :: r ∧ b.fl fs, fun _ => False, fun _ => False, fun _ => False⟩) :
    t { nx := fun _ H' => Q .non H', rt := Q } (L2.start N vs) H := by
  obtain ⟨x, dx, ws, B, ms, b, rfl, hl, r, hf, hp, kq, kx⟩ := h
  have r2 := r.pad (N.length - (ms.length + 1))
  have e1 : L2.start N (.ref x :: ws) = (some (.ref x) :: ws.map some) ++ List.replicate (N.length - (ms.length + 1)) none := by
    unfold L2.start
    rw [List.map_cons, List.length_cons, hl]
  rw [e1]
  refine k x dx ms b hf hp B _ H _ r2 ⟨fun ρ σ H cls d xd r' hd q => ?_, fun _ _ _ z => nomatch z⟩ ⟨fun ρ σ H r' q => ?_, fun _ _ _ _ z => z.elim, fun _ _ _ _ z => z.elim, fun _ _ _ _ z => z.elim⟩
  · exact kx cls d xd H r'.nil (hd.mono fun b hb => by
      rcases List.mem_append.mp hb with h | h
      · exact absurd h (by simp [owns])
      · exact List.mem_append_right _ h) q
  · obtain ⟨fs, rr, rfl, q⟩ := q
    cases σ with
    | nil => exact r'.sl.elim
    | cons y σ =>
      have r3 := r'.head
      have ey : y = some (.ref x) := r3.sl.1.1
      subst ey
      exact kq fs H r3 q
section
variable {X : XC} {ρ : Env} {Q : M → Env → Prop} {ta te tv : TE} {t : TA} {f : List M → Option BrI} {C : Addr} {Ew : XK} {K : PySem.W.Frag} {W : WX} {Qx : Env → Value → XD → Prop} {pin : Option (Addr × Str × E)}
theorem make_use {B : Bs} {ms : List M} {ws : List V} {σ : L2.St} {H1 : Hp} {b : BrI} {R : VK} {E : XK} (hl : ms.length = ws.length) (r1 : Rel B (ms ++ ρ) (ws.map some ++ σ) H1) (hf : f ms = some b) (hp : b.pre)
    (kq : ∀ x fs H', Rel B (.sh (obE C fs) :: ρ) (some (.ref x) :: σ) H' → b.fl fs → R (.ref x) H') (kx : ∀ cls d xd H', Rel B ρ σ H' → XDat B ρ σ H' d xd → b.xp cls xd → E cls d H') :
    ∀ x dx, H1 x = none → H1 dx = none → dx ≠ x → spI C f (.ref x :: (ws ++ [])) (upd (upd H1 dx (.own x)) x (.ins C dx [])) (fun v H2 => v = .non ∧ R (.ref x) H2) E := by
  intro x dx hx hdx hne
  rw [List.append_nil]
  have hx2 : upd H1 dx (.own x) x = none := (upd_ne hne.symm).trans hx
  have r2 := r1.grow (same_new (o := .own x) hdx)
  have hfr := r2.fresh hx2
  have s3 : Same (upd H1 dx (.own x)) (upd (upd H1 dx (.own x)) x (.ins C dx [])) := same_new hx2
  generalize hG : upd H1 dx (.own x) = G at r2 hfr s3 hx2 ⊢
  have r3 : Rel B (.pt x C dx [] :: (ms ++ ρ)) (some (.ref x) :: (ws.map some ++ σ)) (upd G x (.ins C dx [])) := by
    have sw : Same (wos (owns (ms ++ ρ) (ws.map some ++ σ) ++ B.O1) G) (wos (x :: owns (ms ++ ρ) (ws.map some ++ σ) ++ B.O1) (upd G x (.ins C dx []))) := wos_same fun b o hb e => ⟨fun hm => (List.mem_cons.mp hm).elim (fun z => by rw [z, hx2] at e; cases e) hb, s3 _ _ e⟩
    exact {
      fr := fun b o h e => s3 _ _ (r2.fr b o h e)
      sto := fun p c e => ⟨(r2.sto p c e).1.keep s3, (r2.sto p c e).2⟩
      ex := r2.ex
      new := fun a ha => (List.mem_cons.mp ha).elim (fun z => by rw [z]; exact hfr.2) (r2.new a)
      nd := List.nodup_cons.mpr ⟨fun z => hfr.1 (List.mem_append_left _ z), r2.nd⟩
      sl := ⟨⟨rfl, [], upd_same, rfl⟩, r2.sl.mono sw fun a _ o e => s3 _ _ e⟩ }
  have hl2 : (M.pt x C dx [] :: ms).length = (some (V.ref x) :: ws.map some).length := by simp [hl]
  have hρ : ρ.length = σ.length := by
    have := r1.sl.length
    simp only [List.length_append, List.length_map] at this
    omega
  have r4 : Rel B ((M.pt x C dx [] :: ms) ++ ρ) ((some (V.ref x) :: ws.map some) ++ σ) (upd G x (.ins C dx [])) := r3
  have sw : Rel B (ρ ++ (M.pt x C dx [] :: ms)) (σ ++ (some (V.ref x) :: ws.map some)) (upd G x (.ins C dx [])) := by
    have p1 : (owns (ρ ++ (M.pt x C dx [] :: ms)) (σ ++ (some (V.ref x) :: ws.map some))).Perm (owns ((M.pt x C dx [] :: ms) ++ ρ) ((some (V.ref x) :: ws.map some) ++ σ)) := by
      rw [owns_append hρ, owns_append hl2]
      exact List.perm_append_comm
    have s1 := (Slots.append hl2).mp r4.sl
    have sW := wos_perm (H := upd G x (.ins C dx [])) (p1.append_right B.O1)
    exact r4.of (p1.nodup_iff.mpr r4.nd) (fun q h => p1.mem_iff.mp h) ((Slots.append hρ).mpr ⟨s1.2.mono sW fun _ _ _ e => e, s1.1.mono sW fun _ _ _ e => e⟩)
  refine ⟨x, dx, ws, B.hide (M.pt x C dx [] :: ms) (some (V.ref x) :: ws.map some) ρ σ (upd G x (.ins C dx [])), ms, b, rfl, hl, sw.hide hρ, hf, hp, fun fs H' r' q => ⟨rfl, ?_⟩, fun cls d xd H' r' hd q => ?_⟩
  · have u : Rel B (ρ ++ [M.pt x C dx fs]) (σ ++ [some (.ref x)]) H' := sw.unhide hρ r'
    have p1 : (owns (M.pt x C dx fs :: ρ) (some (.ref x) :: σ)).Perm (owns (ρ ++ [M.pt x C dx fs]) (σ ++ [some (.ref x)])) := by
      rw [owns_append hρ]
      have e : owns [M.pt x C dx fs] [some (.ref x)] = own (M.pt x C dx fs) (some (.ref x)) := List.append_nil _
      rw [e]
      exact List.perm_append_comm
    have s1 := (Slots.append hρ).mp u.sl
    have sW : Same (wos (owns (ρ ++ [M.pt x C dx fs]) (σ ++ [some (.ref x)]) ++ B.O1) H') (wos (owns (M.pt x C dx fs :: ρ) (some (.ref x) :: σ) ++ B.O1) H') := wos_perm (p1.append_right _)
    have u2 : Rel B (M.pt x C dx fs :: ρ) (some (.ref x) :: σ) H' := u.of (p1.nodup_iff.mpr u.nd) (fun q h => p1.mem_iff.mp h) ⟨s1.2.1.mono sW fun _ _ _ e => e, s1.1.mono sW fun _ _ _ e => e⟩
    exact kq x fs H' u2.frz q
  · have u : Rel B (ρ ++ []) (σ ++ []) H' := sw.unhide hρ r'
    rw [List.append_nil, List.append_nil] at u
    refine kx cls d xd H' u (hd.mono fun b hb => ?_) q
    rcases List.mem_append.mp hb with h | h
    · exact List.mem_append_right _ (List.mem_append_right _ h)
    · exact List.mem_append_right _ (List.mem_append_left _ h)
theorem q_make0 (k : pA X t ρ fun ms ρ1 => ∃ b, f ms = some b ∧ b.pre ∧ (∀ cls xd, ¬ b.xp cls xd) ∧ ∀ fs, b.fl fs → Q (.sh (obE C fs)) ρ1) : pE X (tMake C (spI C f) [] Ew t) ρ Q := fun B σ H R rel x ff =>
  k B σ H _ rel x fun vs ms ρ1 H1 hl r1 ⟨b, h1, h2, h3, h4⟩ => make_use hl r1 h1 h2 (fun y fs H' r' q => ff _ _ ρ1 H' r' (h4 fs q)) fun cls d xd H' _ _ q => (h3 cls xd q).elim
theorem q_makeX (k : pA ⟨fun cls d _ H => Ew cls d H, Qx, pin⟩ t ρ fun ms ρ1 => ∃ b, f ms = some b ∧ b.pre ∧ (∀ cls xd, b.xp cls xd → Qx ρ1 cls xd) ∧ ∀ fs, b.fl fs → Q (.sh (obE C fs)) ρ1) : pE ⟨fun cls d _ H => Ew cls d H, Qx, pin⟩ (tMake C (spI C f) [] Ew t) ρ Q := fun B σ H R rel x ff =>
  k B σ H _ rel x fun vs ms ρ1 H1 hl r1 ⟨b, h1, h2, h3, h4⟩ => make_use hl r1 h1 h2 (fun y fs H' r' q => ff _ _ ρ1 H' r' (h4 fs q)) fun cls d xd H' r' hd q => x.ex ρ1 σ H' cls d xd r' hd (h3 cls xd q)
/-- self.f = e, in __init__ -/
theorem q_fld {n b c : Env → Prop} {rt : M → Prop} {fn : Str} {x dx : Addr} {fs0 : List (Str × E)} (h0 : ρ[0]? = some (.pt x C dx fs0)) (cl : Cls K C) (na : NoAttr K C fn)
    (k : pE X tv ρ fun m ρ1 => ∃ e fs, m.frz = .sh e ∧ ρ1[0]? = some (.pt x C dx fs) ∧ Nat.blt fs.length 1000 = true ∧ n (ρ1.set 0 (.pt x C dx (putE fn e fs)))) : pS X (sFld K (tVar 0) tv fn) ρ ⟨n, rt, b, c⟩ := fun B σ H D r xo ok =>
  k B σ H _ r xo fun y m ρ1 H1 r1 ⟨e, fs, em, h1, h2, q⟩ => by
    have r1 := r1.frz
    rw [em] at r1
    obtain ⟨z, hz, hs⟩ := r1.tail.sl.at h1
    obtain ⟨rfl, fv, h3, h4⟩ := hs
    obtain ⟨z2, hz2, r2⟩ := r1.tail.take h1
    rw [hz] at hz2
    cases hz2
    have pm : (owns (M.pt x C dx fs :: ρ1.set 0 .no) (some (.ref x) :: σ)).Perm (owns ρ1 σ) := owns_take h1 hz
    have hy := r1.val
    refine ⟨_, hz, x, C, dx, fv, rfl, h3, cl, na, by rw [h4.len]; exact Nat.le_of_ble_eq_true h2, ?_⟩
    have r3 := r2.write (q := x) (o := .ins C dx (putF fn y fv)) (m' := .pt x C dx (putE fn e fs)) (List.mem_cons_self ..) rfl ⟨rfl, _, upd_same, ((h4.put hy).mono (wos_perm (pm.append_right _)))⟩
    have r4 := r3.set 0
    rw [List.set_set, set_self hz] at r4
    exact ok.nx _ _ _ r4 q
theorem obE_at {B : Bs} {σ : L2.St} {H : Hp} {v : V} {fs : List (Str × E)} (r : Rel B (.sh (obE C fs) :: ρ) (some v :: σ) H) : ∃ a dx fv, v = .ref a ∧ H a = some (.ins C dx fv) ∧ EvF (wos (owns ρ σ ++ B.O1) H) fv fs := by
  obtain ⟨a, dx, fv, rfl, h1, h3⟩ := r.val
  exact ⟨a, dx, fv, rfl, (wos_some h1).2, h3⟩
/-- o.f -/
theorem p_fld {fn : Str} (k : pE X ta ρ fun m ρ1 => ∃ C fs e, m.frz = .sh (obE C fs) ∧ Cls K C ∧ NoAttr K C fn ∧ fs.lookup fn = some e ∧ Q (.sh e) ρ1) : pE X (tFld K ta fn) ρ Q := fun B σ H R r x ff =>
  k B σ H _ r x fun v m ρ1 H1 r1 ⟨C, fs, e, em, h1, h2, h3, q⟩ => by
    have r1 := r1.frz
    rw [em] at r1
    obtain ⟨a, dx, fv, rfl, h4, h5⟩ := obE_at r1
    obtain ⟨w, h6, h7⟩ := h5.look h3
    exact ⟨a, C, dx, fv, w, rfl, h4, h1, h2, h6, ff _ _ ρ1 H1 (r1.tail.push h7) q⟩
/-- o.m(..), the object in front -/
theorem meth_use {B : Bs} {m : M} {v : V} {σ : L2.St} {H1 : Hp} {fn : Str} {fs : List (Str × E)} (em : m.frz = .sh (obE C fs)) (r1 : Rel B (m :: ρ) (some v :: σ) H1) (h : fs.lookup fn = none) : ∃ a dx fv, v = .ref a ∧ H1 a = some (.ins C dx fv) ∧ fv.lookup fn = none := by
  have r1 := r1.frz
  rw [em] at r1
  obtain ⟨a, dx, fv, rfl, h4, h5⟩ := obE_at r1
  exact ⟨a, dx, fv, rfl, h4, h5.none h⟩
variable {g : List M → Option Br} {fn : Str}
theorem q_meth0 (k : pE X ta ρ fun m ρ1 => ∃ fs, m.frz = .sh (obE C fs) ∧ fs.lookup fn = none ∧ pA X t ρ1 fun ms ρ2 => ∃ b, g (.sh (obE C fs) :: ms) = some b ∧ b.pre ∧ (∀ cls xd, ¬ b.xp cls xd) ∧ ∀ m, b.post m → Q m ρ2) : pE X (tMeth C fn (spC (ctF g)) [] Ew ta t) ρ Q := fun B σ H R r x ff =>
  k B σ H _ r x fun v m ρ1 H1 r1 ⟨fs, em, h1, q1⟩ => by
    obtain ⟨a, dx, fv, rfl, h2, h3⟩ := meth_use em r1 h1
    have r1 := r1.frz
    rw [em] at r1
    refine ⟨a, dx, fv, rfl, h2, h3, q1 _ σ H1 _ (Rel.hide (ρf := [.sh (obE C fs)]) (σf := [some (.ref a)]) r1 rfl) (XOk.hide (ρf := [.sh (obE C fs)]) (σf := [some (.ref a)]) x r1 rfl) fun vs ms ρ2 H2 hl r2 ⟨b, h4, h5, h6, h7⟩ => ?_⟩
    have r3 : Rel B ((.sh (obE C fs) :: ms) ++ ρ2) ((V.ref a :: vs).map some ++ σ) H2 := Rel.unhide (ρf := [.sh (obE C fs)]) (σf := [some (.ref a)]) r1 rfl r2
    rw [List.append_nil]
    exact spC_use (congrArg (· + 1) hl) r3 ⟨b, h4, h5⟩ (fun v m H' r' ⟨b', h8, q⟩ => ff v m ρ2 H' r' (h7 m (by rw [h4] at h8; cases h8; exact q))) fun cls d xd H' _ _ ⟨b', h8, q⟩ => by
      rw [h4] at h8; cases h8; exact (h6 cls xd q).elim
theorem q_methX (k : pE ⟨fun cls d _ H => Ew cls d H, Qx, pin⟩ ta ρ fun m ρ1 => ∃ fs, m.frz = .sh (obE C fs) ∧ fs.lookup fn = none ∧ pA ⟨fun cls d _ H => Ew cls d H, Qx, pin⟩ t ρ1 fun ms ρ2 => ∃ b, g (.sh (obE C fs) :: ms) = some b ∧ b.pre ∧ (∀ cls xd, b.xp cls xd → Qx ρ2 cls xd) ∧ ∀ m, b.post m → Q m ρ2) : pE ⟨fun cls d _ H => Ew cls d H, Qx, pin⟩ (tMeth C fn (spC (ctF g)) [] Ew ta t) ρ Q := fun B σ H R r x ff =>
  k B σ H _ r x fun v m ρ1 H1 r1 ⟨fs, em, h1, q1⟩ => by
    obtain ⟨a, dx, fv, rfl, h2, h3⟩ := meth_use em r1 h1
    have r1 := r1.frz
    rw [em] at r1
    refine ⟨a, dx, fv, rfl, h2, h3, q1 _ σ H1 _ (Rel.hide (ρf := [.sh (obE C fs)]) (σf := [some (.ref a)]) r1 rfl) (XOk.hide (ρf := [.sh (obE C fs)]) (σf := [some (.ref a)]) x r1 rfl) fun vs ms ρ2 H2 hl r2 ⟨b, h4, h5, h6, h7⟩ => ?_⟩
    have r3 : Rel B ((.sh (obE C fs) :: ms) ++ ρ2) ((V.ref a :: vs).map some ++ σ) H2 := Rel.unhide (ρf := [.sh (obE C fs)]) (σf := [some (.ref a)]) r1 rfl r2
    rw [List.append_nil]
    exact spC_use (congrArg (· + 1) hl) r3 ⟨b, h4, h5⟩ (fun v m H' r' ⟨b', h8, q⟩ => ff v m ρ2 H' r' (h7 m (by rw [h4] at h8; cases h8; exact q))) fun cls d xd H' r' hd ⟨b', h8, q⟩ => x.ex ρ2 σ H' cls d xd r' hd (h6 cls xd (by rw [h4] at h8; cases h8; exact q))
/-- a getter -/
theorem q_prop (k : pE X ta ρ fun m ρ1 => ∃ fs, m.frz = .sh (obE C fs) ∧ ∃ b, g [.sh (obE C fs)] = some b ∧ b.pre ∧ (∀ cls xd, ¬ b.xp cls xd) ∧ ∀ m, b.post m → Q m ρ1) : pE X (tProp C (spC (ctF g)) [] Ew ta) ρ Q := fun B σ H R r x ff =>
  k B σ H _ r x fun v m ρ1 H1 r1 ⟨fs, em, b, h4, h5, h6, h7⟩ => by
    have r1 := r1.frz
    rw [em] at r1
    obtain ⟨a, dx, fv, rfl, h2, _⟩ := obE_at r1
    refine ⟨a, dx, fv, rfl, h2, ?_⟩
    exact spC_use (ms := [.sh (obE C fs)]) (vs := [.ref a]) rfl r1 ⟨b, h4, h5⟩ (fun v m H' r' ⟨b', h8, q⟩ => ff v m ρ1 H' r' (h7 m (by rw [h4] at h8; cases h8; exact q))) fun cls d xd H' _ _ ⟨b', h8, q⟩ => by
      rw [h4] at h8; cases h8; exact (h6 cls xd q).elim
/-- len of an object -/
theorem v_lenI {QQ : M → Prop} {fs : List (Str × E)} {n : Int} {A : Prop} (h : g [.sh (obE C fs)] = some (brp A (.sh (.int n)))) (hA : A) (h0 : 0 ≤ n) (h1 : n < 2 ^ 63) (k : QQ (.sh (.int n))) : pL (rLenI C (spC (ctF g))) [.sh (obE C fs)] QQ := fun B ρ σ H vs R hl r ff => by
  match vs, hl, r with
  | [v], _, r =>
    obtain ⟨a, dx, fv, rfl, h2, _⟩ := obE_at r
    refine ⟨a, dx, fv, rfl, h2, ?_⟩
    exact spC_use (ms := [.sh (obE C fs)]) (vs := [.ref a]) rfl r ⟨_, h, hA⟩ (fun v m H' r' ⟨b', h8, q⟩ => by
      rw [h] at h8
      cases h8
      obtain rfl : m = .sh (.int n) := q
      obtain rfl := Rel.int r'
      exact ⟨n, rfl, h0, h1, ff _ _ H' r' k⟩) fun cls d xd H' _ _ ⟨b', h8, q⟩ => by rw [h] at h8; cases h8; exact q.elim
theorem p_bits (k : pE X ta ρ fun m ρ1 => ∃ i, m = .sh (.int i) ∧ Q (.sh (.int (Builtin.Int.intBits i : Nat))) ρ1) : pE X (tBits ta) ρ Q := fun B σ H R r x ff =>
  k B σ H _ r x fun v m ρ1 H1 r1 ⟨i, em, q⟩ => by
    subst em
    exact ⟨i, r1.int, ff _ _ ρ1 H1 (r1.tail.push (e := .int _) rfl) q⟩
end
end Pl

set_option Elab.async false
set_option linter.all false
set_option maxRecDepth 100000
set_option maxHeartbeats 4000000
/-! Pm: orders: what can be reached. -/
namespace Pl
open PySem L2 Gx PySem.Spec PyProof.Rows
theorem bor_nat (a b : Nat) : Builtin.bitOr (a : Int) (b : Int) = ((a ||| b : Nat) : Int) := by
  unfold Builtin.bitOr
  have h1 : Builtin.bitAnd (Builtin.bitNot (a : Int)) (Builtin.bitNot (b : Int)) = Builtin.bitNot ((a ||| b : Nat) : Int) := by
    unfold Builtin.bitAnd
    have e1 : decide (0 ≤ Builtin.bitNot (a : Int)) = false := decide_eq_false (by unfold Builtin.bitNot; omega)
    have e2 : decide (0 ≤ Builtin.bitNot (b : Int)) = false := decide_eq_false (by unfold Builtin.bitNot; omega)
    rw [e1, e2]
    have e3 : (Builtin.bitNot (Builtin.bitNot (a : Int))).toNat = a := by unfold Builtin.bitNot; omega
    have e4 : (Builtin.bitNot (Builtin.bitNot (b : Int))).toNat = b := by unfold Builtin.bitNot; omega
    show Builtin.bitNot (((Builtin.bitNot (Builtin.bitNot (a : Int))).toNat ||| (Builtin.bitNot (Builtin.bitNot (b : Int))).toNat : Nat) : Int) = _
    rw [e3, e4]
  rw [h1]
  unfold Builtin.bitNot
  omega
/-- (x >> b) & 1 == 1 -/
theorem bit_eq (x b : Nat) : decide (Builtin.bitAnd ((x : Int) / 2 ^ b) 1 = 1) = x.testBit b := by
  rw [PyProof.Rows.bitAnd_m1]
  have e1 : (x : Int) / 2 ^ b = ((x / 2 ^ b : Nat) : Int) := by
    rw [Int.natCast_ediv]
    congr 1
  rw [e1]
  have e2 : x.testBit b = decide (x / 2 ^ b % 2 = 1) := by
    rw [Nat.testBit_eq_decide_div_mod_eq]
  rw [e2]
  have e3 : (((x / 2 ^ b : Nat) : Int) % 2 = 1) ↔ (x / 2 ^ b % 2 = 1) := by omega
  exact decide_eq_decide.mpr e3
/-- what one comes to by the pairs -/
inductive Rch (A : List (Int × Int)) : Int → Int → Prop
  | refl (a : Int) : Rch A a a
  | step {a b c : Int} (h : (a, b) ∈ A) (r : Rch A b c) : Rch A a c
theorem Rch.trans {A : List (Int × Int)} {a b c : Int} (h : Rch A a b) (k : Rch A b c) : Rch A a c := by
  induction h with
  | refl a => exact k
  | step h _ ih => exact .step h (ih k)
theorem Rch.mono {A A' : List (Int × Int)} (s : ∀ p ∈ A, p ∈ A') {a b : Int} (h : Rch A a b) : Rch A' a b := by
  induction h with
  | refl a => exact .refl a
  | step h _ ih => exact .step (s _ h) ih
theorem Rch.cases {A : List (Int × Int)} {a c : Int} : Rch A a c ↔ a = c ∨ ∃ b, (a, b) ∈ A ∧ Rch A b c :=
  ⟨fun h => by
    cases h with
    | refl => exact .inl rfl
    | step h r => exact .inr ⟨_, h, r⟩, fun h => by
    rcases h with rfl | ⟨b, h, r⟩
    · exact .refl a
    · exact .step h r⟩
def Rising (n : Int) (A : List (Int × Int)) : Prop := ∀ p ∈ A, 0 ≤ p.1 ∧ p.1 < p.2 ∧ p.2 < n
theorem Rch.le {A : List (Int × Int)} {n a c : Int} (R : Rising n A) (h : Rch A a c) : a ≤ c := by
  induction h with
  | refl a => exact Int.le_refl _
  | step h _ ih => have := R _ h; omega
theorem Rch.lt {A : List (Int × Int)} {n a c : Int} (R : Rising n A) (h : Rch A a c) (ha : a < n) : c < n := by
  induction h with
  | refl a => exact ha
  | step h _ ih => exact ih (R _ h).2.2
/-- row a tells in its bits what a comes to -/
def IsReach (n : Nat) (A : List (Int × Int)) (r : List Nat) : Prop := r.length = n ∧ ∀ a c : Nat, a < n → ((r.getD a 0).testBit c = true ↔ Rch A a c)
def stepR (r : List Nat) (p : Int × Int) : List Nat := r.set p.1.toNat (r.getD p.1.toNat 0 ||| r.getD p.2.toNat 0)
theorem getD_set {α : Type} {l : List α} {i j : Nat} {x d : α} (hi : i < l.length) : (l.set i x).getD j d = if i = j then x else l.getD j d := by
  rw [List.getD_eq_getElem?_getD, List.getD_eq_getElem?_getD, List.getElem?_set]
  by_cases h : i = j
  · rw [if_pos h, if_pos h, if_pos hi]; rfl
  · rw [if_neg h, if_neg h]
theorem reach_inv {n : Nat} {A L : List (Int × Int)} (R : Rising n A) (hm : ∀ p, p ∈ L ↔ p ∈ A) (hs : L.Pairwise fun p q => q.1 ≤ p.1) : ∀ (k : Nat) (r : List Nat), k ≤ L.length →
    (r.length = n ∧ ∀ a c : Nat, a < n → ((r.getD a 0).testBit c = true ↔ (a : Int) = c ∨ ∃ b, ((a : Int), b) ∈ L.take k ∧ Rch A b c)) →
    ∀ p, L[k]? = some p → (stepR r p).length = n ∧ ∀ a c : Nat, a < n → (((stepR r p).getD a 0).testBit c = true ↔ (a : Int) = c ∨ ∃ b, ((a : Int), b) ∈ L.take (k + 1) ∧ Rch A b c) := by
  intro k r hk ⟨hl, h⟩ p hp
  obtain ⟨p1, p2⟩ := p
  have hpm : (p1, p2) ∈ A := (hm _).mp (List.mem_of_getElem? hp)
  have hr := R _ hpm
  obtain ⟨a0, rfl⟩ := Int.eq_ofNat_of_zero_le hr.1
  obtain ⟨b0, rfl⟩ := Int.eq_ofNat_of_zero_le (show 0 ≤ p2 by have := hr.2.1; simp only at this hr; omega)
  have ha0 : a0 < n := by have := hr.2.1; have := hr.2.2; simp only at *; omega
  have hb0 : b0 < n := by have := hr.2.2; simp only at *; omega
  have hab : a0 < b0 := by have := hr.2.1; simp only at *; omega
  have hB : ∀ c : Nat, ((r.getD b0 0).testBit c = true ↔ Rch A b0 c) := fun c => by
    rw [h b0 c hb0, Rch.cases]
    constructor
    · rintro (h | ⟨d, hd, hr⟩)
      · exact .inl h
      · exact .inr ⟨d, (hm _).mp (List.mem_of_mem_take hd), hr⟩
    · rintro (h | ⟨d, hd, hr⟩)
      · exact .inl h
      · refine .inr ⟨d, ?_, hr⟩
        obtain ⟨j, hj⟩ := List.getElem?_of_mem ((hm _).mpr hd)
        have hjk : j < k := by
          rcases Nat.lt_or_ge j k with q | q
          · exact q
          · rcases Nat.lt_or_ge k j with q2 | q2
            · have hj1 := (List.getElem?_eq_some_iff.mp hj).1
              have hk1 := (List.getElem?_eq_some_iff.mp hp).1
              have := List.pairwise_iff_getElem.mp hs k j hk1 hj1 q2
              rw [(List.getElem?_eq_some_iff.mp hj).2, (List.getElem?_eq_some_iff.mp hp).2] at this
              simp only at this
              omega
            · have e : j = k := by omega
              subst e
              rw [hp] at hj
              have := Option.some.inj hj
              simp only [Prod.mk.injEq] at this
              omega
        exact List.mem_of_getElem? (i := j) (by rw [List.getElem?_take_of_lt hjk]; exact hj)
  refine ⟨by unfold stepR; rw [List.length_set]; exact hl, fun a c ha => ?_⟩
  have htk : L.take (k + 1) = L.take k ++ [((a0 : Int), (b0 : Int))] := by
    rw [List.take_add_one, hp]; rfl
  rw [htk]
  unfold stepR
  simp only [Int.toNat_natCast]
  rw [getD_set (by omega)]
  by_cases e : a0 = a
  · subst e
    rw [if_pos rfl, Nat.testBit_or, Bool.or_eq_true, h a0 c ha, hB]
    constructor
    · rintro ((h | ⟨d, hd, hr⟩) | h)
      · exact .inl h
      · exact .inr ⟨d, List.mem_append_left _ hd, hr⟩
      · exact .inr ⟨b0, List.mem_append_right _ (List.mem_singleton.mpr rfl), h⟩
    · rintro (h | ⟨d, hd, hr⟩)
      · exact .inl (.inl h)
      · rcases List.mem_append.mp hd with z | z
        · exact .inl (.inr ⟨d, z, hr⟩)
        · have := List.mem_singleton.mp z
          simp only [Prod.mk.injEq] at this
          rw [this.2] at hr
          exact .inr hr
  · rw [if_neg e, h a c ha]
    constructor
    · rintro (h | ⟨d, hd, hr⟩)
      · exact .inl h
      · exact .inr ⟨d, List.mem_append_left _ hd, hr⟩
    · rintro (h | ⟨d, hd, hr⟩)
      · exact .inl h
      · rcases List.mem_append.mp hd with z | z
        · exact .inr ⟨d, z, hr⟩
        · have := List.mem_singleton.mp z
          simp only [Prod.mk.injEq] at this
          omega
theorem reach_end {n : Nat} {A L : List (Int × Int)} (hm : ∀ p, p ∈ L ↔ p ∈ A) {r : List Nat} (h : r.length = n ∧ ∀ a c : Nat, a < n → ((r.getD a 0).testBit c = true ↔ (a : Int) = c ∨ ∃ b, ((a : Int), b) ∈ L.take L.length ∧ Rch A b c)) : IsReach n A r := by
  refine ⟨h.1, fun a c ha => ?_⟩
  rw [h.2 a c ha, Rch.cases, List.take_length]
  constructor
  · rintro (h | ⟨d, hd, hr⟩)
    · exact .inl h
    · exact .inr ⟨d, (hm _).mp hd, hr⟩
  · rintro (h | ⟨d, hd, hr⟩)
    · exact .inl h
    · exact .inr ⟨d, (hm _).mpr hd, hr⟩
theorem reach_start {n : Nat} {A L : List (Int × Int)} : ((List.range n).map fun i => 2 ^ i).length = n ∧ ∀ a c : Nat, a < n → ((((List.range n).map fun i => 2 ^ i).getD a 0).testBit c = true ↔ (a : Int) = c ∨ ∃ b, ((a : Int), b) ∈ L.take 0 ∧ Rch A b c) := by
  refine ⟨by simp, fun a c ha => ?_⟩
  have e : ((List.range n).map fun i => 2 ^ i).getD a 0 = 2 ^ a := by
    rw [List.getD_eq_getElem?_getD, List.getElem?_map, List.getElem?_range ha]; rfl
  rw [e, Nat.testBit_two_pow]
  simp
  omega
/-! ### pairs as values -/
def prE (p : Int × Int) : E := .tup [.int p.1, .int p.2]
def prOf : E → Option (Int × Int)
  | .lst [.int a, .int b] => some (a, b)
  | .tup [.int a, .int b] => some (a, b)
  | _ => none
def allPr : List E → Option (List (Int × Int))
  | [] => some []
  | e :: es => (match prOf e, allPr es with
    | some p, some A => some (p :: A)
    | _, _ => none)
def seqOf : E → Option (List E)
  | .lst es => some es
  | .tup es => some es
  | .pr _ => some []
  | _ => none
theorem allPr_at : ∀ {es : List E} {A : List (Int × Int)}, allPr es = some A → es.length = A.length ∧ ∀ (i : Nat) (e : E), es[i]? = some e → ∃ p, A[i]? = some p ∧ prOf e = some p
  | [], A, h => by
    cases Option.some.inj h
    exact ⟨rfl, fun i e h => by simp at h⟩
  | e :: es, A, h => by
    unfold allPr at h
    cases q1 : prOf e with
    | none => rw [q1] at h; cases h
    | some p =>
      cases q2 : allPr es with
      | none => rw [q1, q2] at h; cases h
      | some A' =>
        rw [q1, q2] at h
        cases Option.some.inj h
        obtain ⟨h1, h2⟩ := allPr_at q2
        refine ⟨by simp [h1], fun i e' he => ?_⟩
        cases i with
        | zero => cases Option.some.inj he; exact ⟨p, rfl, q1⟩
        | succ i =>
          obtain ⟨p', h3, h4⟩ := h2 i e' (by simpa using he)
          exact ⟨p', by simpa using h3, h4⟩
theorem prOf_cases {e : E} {p : Int × Int} (h : prOf e = some p) : e = .lst [.int p.1, .int p.2] ∨ e = .tup [.int p.1, .int p.2] := by
  unfold prOf at h
  split at h
  · cases Option.some.inj h; exact .inl rfl
  · cases Option.some.inj h; exact .inr rfl
  · cases h
section
variable {X : XC} {ρ : Env} {K : PySem.W.Frag} {QI : List E → Env → Prop} {j : Nat} {e : E} {es : List E}
theorem itr_emp {B : Bs} {a : Addr} (h : Emp K a) : ItR B [] [] (Itt K a) [] where
  stop := fun ρ σ H r => ⟨[], h.sq H, Nat.le_refl _⟩
  go := fun i e ρ σ H he r => by simp at he
theorem p_iseq (h : ρ[j]? = some (.sh e)) (hs : seqOf e = some es) (hk : kn K e) (k : QI es ρ) : pI X (iOr (iList K (tVar j)) (iTup K (tVar j))) ρ QI := by
  cases e with
  | lst fs =>
    cases Option.some.inj hs
    exact p_ior1 (p_ilist (p_var h ⟨_, rfl, k⟩))
  | tup fs =>
    cases Option.some.inj hs
    exact p_ior2 (p_itup (p_var h ⟨_, rfl, k⟩))
  | pr P =>
    cases Option.some.inj hs
    have hP : P = empP K := hk
    subst hP
    refine p_ior2 fun B σ H R r x f => p_var (X := X) (Q := fun m ρ' => ρ' = ρ ∧ m = .sh (.pr (empP K))) h ⟨rfl, rfl⟩ B σ H _ r x fun v m ρ1 H1 r1 ⟨e1, e2⟩ => ?_
    subst e1 e2
    obtain ⟨H2, s, a, rfl, em⟩ := r1.val
    exact ⟨a, rfl, ⟨[], em.sq _⟩, f _ [] [] [] _ H1 rfl r1.tail (fun _ => itr_emp em) k⟩
  | _ => cases hs
theorem itr_empE {B : Bs} {a : Addr} (h : Emp K a) : ItR B [] [] (IteT K a) [] where
  stop := fun ρ σ H r => ⟨[], h.sq H, rfl⟩
  go := fun i e ρ σ H he r => by simp at he
theorem p_ienumS (h : ρ[j]? = some (.sh e)) (hs : seqOf e = some es) (hk : kn K e) (k : QI (enm es) ρ) : pI X (iOr (iEnum K (tCons (tVar j) tNil)) (iEnumT K (tCons (tVar j) tNil))) ρ QI := by
  cases e with
  | lst fs =>
    cases Option.some.inj hs
    exact p_ior1 (p_ienum (p_cons (p_var h (p_nil ⟨_, rfl, k⟩))))
  | tup fs =>
    cases Option.some.inj hs
    exact p_ior2 (p_ienumT (p_cons (p_var h (p_nil ⟨_, rfl, k⟩))))
  | pr P =>
    cases Option.some.inj hs
    have hP : P = empP K := hk
    subst hP
    refine p_ior2 fun B σ H R r x f => p_var (X := X) (Q := fun m ρ' => ρ' = ρ ∧ m = .sh (.pr (empP K))) h ⟨rfl, rfl⟩ B σ H _ r x fun v m ρ1 H1 r1 ⟨e1, e2⟩ => ?_
    subst e1 e2
    obtain ⟨H2, s, a, rfl, em⟩ := r1.val
    exact ⟨a, [], rfl, em.sq _, f _ _ [] [] _ H1 rfl r1.tail (fun _ => itr_empE em) k⟩
  | _ => cases hs
end
/-- sorted(.., reverse=True) of pairs -/
theorem p_sortR {X : XC} {ρ : Env} {K : PySem.W.Frag} {Q : M → Env → Prop} {t tk : TA} (k : pA X t ρ fun ms ρ1 => pA X tk ρ1 fun ns ρ2 => ∃ A : List (Int × Int), ms = [.sh (.lst (A.map prE))] ∧ ns = [.sh (.bl true)] ∧ ∀ A' : List (Int × Int), A'.Perm A → A'.Pairwise (fun p q => q.1 ≤ p.1) → Q (.ow (A'.map prE)) ρ2) : pE X (tCKw (rSortedPR K) t tk) ρ Q := fun B σ H R rel x f =>
  k B σ H _ rel x fun vs ms ρ1 H1 hl r1 q1 => by
    have hl2 : ms.length = (vs.map some).length := by rw [List.length_map]; exact hl
    refine q1 _ σ H1 _ (r1.hide hl2) (x.hide r1 hl2) fun ws ns ρ2 H2 hm r2 ⟨A, em, en, q⟩ => ?_
    have r3 := r1.unhide hl2 r2
    subst em en
    match vs, hl, ws, hm, r3 with
    | [v], _, [w], _, r3 =>
      have r4 : Rel B (.sh (.lst (A.map prE)) :: .sh (.bl true) :: ρ2) (some v :: some w :: σ) H2 := r3
      obtain rfl := r4.tail.bl
      have r5 := r4.swap.tail
      obtain ⟨p, xs, rfl, h1, hz, h2⟩ := r5.val
      have hx : ∀ y ∈ xs, Ev (wos (owns ρ2 σ ++ B.O1) H2) y (prE (pairAt H2 y)) := fun y hy => by
        obtain ⟨i, hi⟩ := List.getElem?_of_mem hy
        obtain ⟨e, he, hv⟩ := h2.at hi
        rw [List.getElem?_map] at he
        cases q : A[i]? with
        | none => rw [q] at he; cases he
        | some pr =>
          rw [q] at he
          cases Option.some.inj he
          obtain ⟨t, us, e1, h5, h6, u1, r6, e2, h7, u2, r8, e3, h8, h9⟩ := id hv
          obtain rfl : u1 = .int pr.1 := h7
          obtain rfl : u2 = .int pr.2 := h8
          obtain rfl : r8 = [] := h9
          subst e1 e2 e3
          rw [pairAt_of (wos_some h5).2]
          exact hv
      refine ⟨p, xs, pairAt H2, rfl, rfl, SqL.of (wos_some h1).2, fun y hy => ?_, fun ys p' hs hp hn => ?_⟩
      · obtain ⟨t, us, e1, h5, h6, u1, r6, e2, h7, u2, r8, e3, h8, h9⟩ := hx y hy
        obtain rfl : u1 = _ := h7
        obtain rfl : u2 = _ := h8
        obtain rfl : r8 = [] := h9
        subst e2 e3
        exact ⟨t, e1, (wos_some h5).2⟩
      · have eA : xs.map (pairAt H2) = A := by
          have gen : ∀ {xs : List V} {A : List (Int × Int)}, EvL (wos (owns ρ2 σ ++ B.O1) H2) xs (A.map prE) → xs.map (pairAt H2) = A := by
            intro xs A
            induction A generalizing xs with
            | nil => intro h; rw [show xs = [] from h]; rfl
            | cons a A ih =>
              intro h
              obtain ⟨v, r, rfl, hv, ht⟩ := h
              obtain ⟨t, us, e1, h5, h6, u1, r6, e2, h7, u2, r8, e3, h8, h9⟩ := id hv
              obtain rfl : u1 = .int a.1 := h7
              obtain rfl : u2 = .int a.2 := h8
              obtain rfl : r8 = [] := h9
              subst e1 e2 e3
              rw [List.map_cons, ih ht, pairAt_of (wos_some h5).2]
          exact gen h2
        have hpA : (ys.reverse.map (pairAt H2)).Perm A := by
          rw [← eA]
          exact ((List.reverse_perm ys).trans hp).map _
        have hd : (ys.reverse.map (pairAt H2)).Pairwise (fun p q => q.1 ≤ p.1) := by
          rw [List.pairwise_map, List.pairwise_reverse]
          exact hs.imp fun {a b} h => by
            have := SrtO.lexB_no.mp h
            omega
        refine f _ _ ρ2 _ (r5.tail.pushL hn ?_ ?_) (q _ hpA hd)
        · rw [List.length_reverse, hp.length_eq]
          exact hz
        · have gen : ∀ {zs : List V}, (∀ z ∈ zs, z ∈ xs) → EvL (wos (owns ρ2 σ ++ B.O1) H2) zs ((zs.map (pairAt H2)).map prE) := by
            intro zs
            induction zs with
            | nil => intro _; rfl
            | cons z zs ih => intro h; exact ⟨z, zs, rfl, hx z (h z (List.mem_cons_self ..)), ih fun y hy => h y (List.mem_cons_of_mem _ hy)⟩
          exact gen fun z hz => hp.mem_iff.mp (List.mem_reverse.mp hz)
def natE (n : Nat) : E := .int n
theorem natE_at {r : List Nat} {i : Int} (h0 : 0 ≤ i) (h1 : i.toNat < r.length) : atI (r.map natE) i = some (.int (r.getD i.toNat 0 : Nat)) := by
  obtain ⟨n, rfl⟩ := Int.eq_ofNat_of_zero_le h0
  have hn : n < r.length := by simpa using h1
  refine atI_nat' ?_
  rw [List.getElem?_map, List.getElem?_eq_getElem hn]
  simp only [Option.map_some, natE, Int.toNat_natCast]
  rw [List.getD_eq_getElem?_getD, List.getElem?_eq_getElem hn]
  rfl
theorem ixN_nat {n : Nat} {i : Int} (h0 : 0 ≤ i) (h1 : i.toNat < n) : ixN n i = some i.toNat := by
  unfold ixN
  rw [if_pos h0, if_pos (by omega)]
theorem map_set_nat {r : List Nat} {i x : Nat} : (r.map natE).set i (.int x) = (r.set i x).map natE := by
  rw [List.map_set]; rfl
theorem and_eqn {a b : Nat} {R : Prop} (h : a = b) (k : R) : a = b ∧ R := ⟨h, k⟩
theorem ex_fld {K : PySem.W.Frag} {m : M} {C : Addr} {fs : List (Str × E)} {f : Str} {e : E} {R : E → Prop} (h : m.frz = .sh (.ob C fs)) (c : Cls K C) (na : NoAttr K C f) (l : fs.lookup f = some e) (k : R e) : ∃ C fs e, m.frz = .sh (obE C fs) ∧ Cls K C ∧ NoAttr K C f ∧ fs.lookup f = some e ∧ R e := ⟨C, fs, e, h, c, na, l, k⟩
/-- whether a value is of the class C -/
def isOf (K : PySem.W.Frag) (C : Addr) (e : E) (b : Bool) : Prop := ∃ t, TyE K e t ∧ PySem.W.kitOne K t (.ref C) = some b
theorem ex_of {K : PySem.W.Frag} {m : M} {C : Addr} {e : E} {b : Bool} {R : Bool → Prop} (h : m.frz = .sh e) (ho : isOf K C e b) (k : R b) : ∃ e' t r', m.frz = .sh e' ∧ TyE K e' t ∧ PySem.W.kitOne K t (.ref C) = some r' ∧ R r' := by
  obtain ⟨t, h1, h2⟩ := ho
  exact ⟨e, t, b, h, h1, h2, k⟩
/-- the members whose bits are set -/
def bitsL (n : Nat) : List Nat := (List.range (Builtin.Int.intBits (n : Int))).filter fun i => n.testBit i
theorem bits_all {n i : Nat} (h : n.testBit i = true) : i < Builtin.Int.intBits (n : Int) := by
  have h1 := PySem.intBits_le_iff (m := i) (x := (n : Int))
  rcases Nat.lt_or_ge i (Builtin.Int.intBits (n : Int)) with q | q
  · exact q
  · have h2 := h1.mp q
    rw [Int.natAbs_natCast] at h2
    rw [Nat.testBit_lt_two_pow h2] at h
    cases h
theorem mem_bitsL {n i : Nat} : i ∈ bitsL n ↔ n.testBit i = true := by
  unfold bitsL
  rw [List.mem_filter, List.mem_range]
  exact ⟨fun h => h.2, fun h => ⟨bits_all h, h⟩⟩
theorem Rising.snoc {n : Int} {A : List (Int × Int)} {p : Int × Int} (h : Rising n A) (hp : 0 ≤ p.1 ∧ p.1 < p.2 ∧ p.2 < n) : Rising n (A ++ [p]) := fun q hq => (List.mem_append.mp hq).elim (h q) fun z => by rw [List.mem_singleton.mp z]; exact hp
theorem Rising.nil {n : Int} : Rising n [] := fun p h => nomatch h
end Pl

set_option Elab.async false
set_option linter.all false
set_option maxRecDepth 100000
set_option maxHeartbeats 4000000
set_option exponentiation.threshold 20000
/-! Pn: plain data, old and new. -/
namespace Pl
open PySem L2 Gx PySem.Spec PyProof.Rows
mutual
def toD : E → D
  | .bl b => .bl b
  | .int i => .int i
  | .str s => .str s
  | .lst es => .lst (toDs es)
  | .tup es => .tup (toDs es)
  | .dic ps => .dic (toDk ps)
  | _ => .non
def toDs : List E → List D
  | [] => []
  | e :: es => toD e :: toDs es
def toDk : List (L2.Key × E) → List (L2.Key × D)
  | [] => []
  | (k, e) :: ps => (k, toD e) :: toDk ps
end
mutual
/-- data alone: no object -/
def plain : E → Bool
  | .non => true
  | .bl _ => true
  | .int _ => true
  | .str _ => true
  | .lst es => plains es
  | .tup es => plains es
  | .dic ps => plaink ps
  | _ => false
def plains : List E → Bool
  | [] => true
  | e :: es => plain e && plains es
def plaink : List (L2.Key × E) → Bool
  | [] => true
  | (_, e) :: ps => plain e && plaink ps
end
mutual
theorem Ev.toD {H : Hp} : ∀ {e : E} {v : V}, plain e = true → Ev H v e → Dv H v (Pl.toD e)
  | .non, _, _, q => q
  | .bl _, _, _, q => q
  | .int _, _, _, q => q
  | .str _, _, _, q => q
  | .lst _, _, h, ⟨p, vs, e, hp, hl, q⟩ => ⟨p, vs, e, hp, hl, EvL.toD h q⟩
  | .tup _, _, h, ⟨p, vs, e, hp, hl, q⟩ => ⟨p, vs, e, hp, hl, EvL.toD h q⟩
  | .dic _, _, h, ⟨p, vs, e, hp, hl, q⟩ => ⟨p, vs, e, hp, hl, EvK.toD h q⟩
  | .dit _, _, h, _ => nomatch h
  | .ob _ _, _, h, _ => nomatch h
  | .pr _, _, h, _ => nomatch h
theorem EvL.toD {H : Hp} : ∀ {es : List E} {vs : List V}, plains es = true → EvL H vs es → DvL H vs (toDs es)
  | [], _, _, q => q
  | e :: es, _, h, ⟨v, r, ee, q, t⟩ => by
    have h2 := He.ba (show (plain e && plains es) = true from h)
    exact ⟨v, r, ee, Ev.toD h2.1 q, EvL.toD h2.2 t⟩
theorem EvK.toD {H : Hp} : ∀ {ps : List (L2.Key × E)} {ks : List (L2.Key × V)}, plaink ps = true → EvK H ks ps → DvK H ks (toDk ps)
  | [], _, _, q => q
  | (k, e) :: ps, _, h, ⟨v, r, ee, q, t⟩ => by
    have h2 := He.ba (show (plain e && plaink ps) = true from h)
    exact ⟨v, r, ee, Ev.toD h2.1 q, EvK.toD h2.2 t⟩
end
theorem plains_all : ∀ {es : List E}, (∀ e ∈ es, plain e = true) → plains es = true
  | [], _ => rfl
  | e :: es, h => by
    show (plain e && plains es) = true
    rw [h e (List.mem_cons_self ..), plains_all fun x hx => h x (List.mem_cons_of_mem _ hx)]
    rfl
/-- how deep -/
def dep (e : E) : Nat := (toD e).depth
def deps (es : List E) : Nat := D.depth.go (toDs es)
theorem dep_lst (es : List E) : dep (.lst es) = 1 + deps es := rfl
theorem dep_tup (es : List E) : dep (.tup es) = 1 + deps es := rfl
theorem deps_cons (e : E) (es : List E) : deps (e :: es) = max (dep e) (deps es) := rfl
theorem deps_le {n : Nat} : ∀ {es : List E}, (∀ e ∈ es, dep e ≤ n) → deps es ≤ n
  | [], _ => Nat.zero_le _
  | e :: es, h => by
    rw [deps_cons]
    exact Nat.max_le.mpr ⟨h e (List.mem_cons_self ..), deps_le fun x hx => h x (List.mem_cons_of_mem _ hx)⟩
theorem odd_plain : ∀ e ∈ oddE, plain e = true ∧ dep e ≤ 3 := by
  intro e he
  simp only [oddE, List.mem_cons, List.not_mem_nil, or_false] at he
  rcases he with rfl | rfl | rfl | rfl | rfl | rfl | rfl | rfl | rfl | rfl | rfl | rfl | rfl | rfl <;> exact ⟨rfl, by decide⟩
/-- ints -/
def intEs (ns : List Int) : List E := ns.map E.int
/-- a call from without: values that stand in the heap -/
theorem Rel.base {H : Hp} : ∀ {vs : List V} {es : List E}, EvL H vs es → Rel ⟨H, [], none⟩ (es.map M.sh) (vs.map some) H := by
  intro vs es h
  have o0 : ∀ (es : List E) (vs : List V), owns (es.map M.sh) (vs.map some) = [] := by
    intro es
    induction es with
    | nil => intro vs; rfl
    | cons e es ih =>
      intro vs
      cases vs with
      | nil => rfl
      | cons v vs => exact ih vs
  have sl : ∀ {vs : List V} {es : List E} {W : Hp}, Same H W → EvL H vs es → Slots none H W (es.map M.sh) (vs.map some) := by
    intro vs es W s
    induction es generalizing vs with
    | nil => intro h; rw [show vs = [] from h]; trivial
    | cons e es ih =>
      intro h
      obtain ⟨v, r, rfl, h1, h2⟩ := h
      exact ⟨⟨v, rfl, h1.mono s⟩, ih h2⟩
  exact {
    fr := fun b o _ e => e
    sto := fun p c e => nomatch e
    ex := fun b hb => nomatch hb
    new := fun q hq => by rw [o0] at hq; cases hq
    nd := by rw [o0]; exact List.nodup_nil
    sl := sl (fun b o e => by rw [o0, wos_out (by simp)]; exact e) h }
theorem spC_call {f : List M → Option Br} {b : Br} {vs : List V} {es : List E} {H : Hp} {Q : VK} {Ew : XK} (h : EvL H vs es) (hf : f (es.map M.sh) = some b) (hp : b.pre) (hx : ∀ cls xd, ¬ b.xp cls xd)
    (k : ∀ v m H', Same H H' → Rel ⟨H, [], none⟩ [m] [some v] H' → b.post m → Q v H') : spC (ctF f) vs H Q Ew :=
  ⟨_, es.map M.sh, by rw [List.length_map, h.length], Rel.base h, ⟨b, hf, hp⟩, fun v m H' r ⟨b', h1, q⟩ => by
    rw [hf] at h1
    cases h1
    exact k v m H' (fun a o e => r.fr a o (fun _ z => nomatch z) e) r q, fun cls d xd H' r hd ⟨b', h1, q⟩ => by
    rw [hf] at h1
    cases h1
    exact (hx cls xd q).elim⟩
end Pl

set_option Elab.async false
set_option linter.all false
set_option maxRecDepth 100000
set_option maxHeartbeats 4000000
/-! Pq: lists of lists, all of them one's own. -/
namespace Pl
open PySem L2 Gx PySem.Spec PyProof.Rows
theorem In2.snoc {H W : Hp} {b : Addr} {vs : List V} {es : List E} (h1 : H b = some (.lst vs)) (h2 : vs.length ≤ sizeLine) (h3 : EvL W vs es) : ∀ {bs : List Addr} {ess : List (List E)}, In2 H W bs ess → In2 H W (bs ++ [b]) (ess ++ [es])
  | [], [], _ => ⟨⟨vs, h1, h2, h3⟩, trivial⟩
  | _ :: _, _ :: _, h => ⟨h.1, In2.snoc h1 h2 h3 h.2⟩
  | [], _ :: _, h => h.elim
  | _ :: _, [], h => h.elim
theorem In2.set {H W : Hp} {vs : List V} {es : List E} (h2 : vs.length ≤ sizeLine) (h3 : EvL W vs es) : ∀ {bs : List Addr} {ess : List (List E)} {i : Nat} {b : Addr}, In2 H W bs ess → bs.Nodup → bs[i]? = some b → In2 (upd H b (.lst vs)) W bs (ess.set i es)
  | c :: bs, _ :: ess, 0, b, h, nd, hb => by
    cases Option.some.inj hb
    refine ⟨⟨vs, upd_same, h2, h3⟩, In2.mono (Same.refl W) h.2 fun d hd o e => (upd_ne fun z => ?_).trans e⟩
    rw [z] at hd
    exact (List.nodup_cons.mp nd).1 hd
  | c :: bs, fs :: ess, i + 1, b, h, nd, hb => by
    have hb' : bs[i]? = some b := by simpa using hb
    have n1 : c ≠ b := fun z => (List.nodup_cons.mp nd).1 (by rw [z]; exact List.mem_of_getElem? hb')
    obtain ⟨⟨ws, k1, k2, k3⟩, k4⟩ := h
    exact ⟨⟨ws, (upd_ne n1).trans k1, k2, k3⟩, In2.set h2 h3 k4 (List.nodup_cons.mp nd).2 hb'⟩
  | [], [], _, _, _, _, hb => by simp at hb
  | [], _ :: _, _, _, h, _, _ => h.elim
  | _ :: _, [], _, _, h, _, _ => h.elim
section
variable {X : XC} {ρ : Env} {B : Bs} {σ : L2.St} {H : Hp} {D b : Addr} {bs : List Addr} {ess : List (List E)} {es : List E}
theorem Rel.app2 (r : Rel B (.o2 D bs ess :: .ow es :: ρ) (some (.ref D) :: some (.ref b) :: σ) H) (hz : bs.length < sizeLine) :
    H D = some (.lst (bs.map V.ref)) ∧ Rel B (.o2 D (bs ++ [b]) (ess ++ [es]) :: ρ) (some (.ref D) :: σ) (upd H D (.lst (bs.map V.ref ++ [.ref b]))) := by
  obtain ⟨_, h1, h2, h3⟩ := r.sl.1
  obtain ⟨b', vs, e1, h4, h5, h6⟩ := r.sl.2.1
  cases e1
  have eo : owns (.o2 D (bs ++ [b]) (ess ++ [es]) :: ρ) (some (.ref D) :: σ) = owns (.o2 D bs ess :: .ow es :: ρ) (some (.ref D) :: some (.ref b) :: σ) := by
    show (D :: (bs ++ [b])) ++ owns ρ σ = (D :: bs) ++ ([b] ++ owns ρ σ)
    simp
  have hO : D ∈ owns (.o2 D bs ess :: .ow es :: ρ) (some (.ref D) :: some (.ref b) :: σ) := List.mem_cons_self ..
  have nd := r.nd
  have nDb : b ≠ D := fun z => by
    have h7 : (D :: (bs ++ ([b] ++ owns ρ σ))).Nodup := nd
    exact (List.nodup_cons.mp h7).1 (List.mem_append_right _ (by rw [z]; exact List.mem_cons_self ..))
  have nDbs : ∀ c ∈ bs, c ≠ D := fun c hc z => by
    have h7 : (D :: (bs ++ ([b] ++ owns ρ σ))).Nodup := nd
    exact (List.nodup_cons.mp h7).1 (List.mem_append_left _ (by rw [← z]; exact hc))
  have nDρ : ∀ c ∈ owns ρ σ, c ≠ D := fun c hc z => by
    have h7 : (D :: (bs ++ ([b] ++ owns ρ σ))).Nodup := nd
    exact (List.nodup_cons.mp h7).1 (List.mem_append_right _ (List.mem_append_right _ (by rw [← z]; exact hc)))
  have h0 := r.new D hO
  have np := r.notp hO
  have sw : Same (wos (owns (.o2 D bs ess :: .ow es :: ρ) (some (.ref D) :: some (.ref b) :: σ) ++ B.O1) H) (wos (owns (.o2 D (bs ++ [b]) (ess ++ [es]) :: ρ) (some (.ref D) :: σ) ++ B.O1) (upd H D (.lst (bs.map V.ref ++ [.ref b])))) := by
    rw [eo]
    exact wos_same fun a u ha e => ⟨ha, (upd_ne fun z => ha (List.mem_append_left _ (by rw [z]; exact hO))).trans e⟩
  refine ⟨h1, {
    fr := fun a u h e => (upd_ne fun z => by rw [z, h0] at e; cases e).trans (r.fr a u h e)
    sto := fun p c e => by
      obtain ⟨k1, k2, k3, k4⟩ := r.sto p c e
      exact ⟨k1.mut (fun z => np c (by rw [z]; exact e)) (fun z => k4 (by rw [← z]; exact h0)), k2, k3, k4⟩
    ex := r.ex
    new := fun a ha => r.new a (by rw [← eo]; exact ha)
    nd := by rw [eo]; exact nd
    sl := ⟨⟨rfl, by rw [upd_same, List.map_append]; rfl, by rw [List.length_append]; exact hz, ?_⟩, r.sl.2.2.mono sw fun a ha u e => (upd_ne (nDρ a ha)).trans e⟩ }⟩
  refine In2.snoc ((upd_ne nDb).trans h4) h5 (h6.mono sw) (h3.mono sw fun c hc u e => (upd_ne (nDbs c hc)).trans e)
/-- an inner list is written -/
theorem Rel.write2 {n i : Nat} {vs : List V} {es' : List E} (r : Rel B ρ σ H) (h : ρ[n]? = some (.o2 D bs ess)) (hb : bs[i]? = some b) (hz : vs.length ≤ sizeLine) (he : EvL (wos (owns ρ σ ++ B.O1) H) vs es') : Rel B (ρ.set n (.o2 D bs (ess.set i es'))) σ (upd H b (.lst vs)) := by
  obtain ⟨x, hx, r2⟩ := r.take h
  have pm : (owns (.o2 D bs ess :: ρ.set n .no) (x :: σ)).Perm (owns ρ σ) := owns_take h hx
  obtain ⟨rfl, h1, h2, h3⟩ := r2.sl.1
  have hbm := List.mem_of_getElem? hb
  have h7 : ((D :: bs) ++ owns (ρ.set n .no) σ).Nodup := r2.nd
  have nd1 := List.nodup_append.mp h7
  have nDb : D ≠ b := fun z => (List.nodup_cons.mp nd1.1).1 (by rw [z]; exact hbm)
  have he2 : EvL (wos (owns (.o2 D bs ess :: ρ.set n .no) (some (.ref D) :: σ) ++ B.O1) H) vs es' := he.mono (wos_perm (pm.append_right _))
  have r3 := r2.write (q := b) (o := .lst vs) (m' := .o2 D bs (ess.set i es')) (List.mem_cons_of_mem _ hbm) rfl ⟨rfl, (upd_ne nDb).trans h1, h2, In2.set hz he2 h3 (List.nodup_cons.mp nd1.1).2 hb⟩
  have r4 := r3.set n
  rw [List.set_set, set_self hx] at r4
  exact r4
end
/-- a list of fresh lists by a comprehension -/
theorem p_lcO {X : XC} {ρ : Env} {Q : M → Env → Prop} {wi : TI} {g : TG} {tt : TT} {te : TE} {vs : List Nat} (Inv : List E → Nat → List (List E) → Prop)
    (k : pI X wi ρ fun es ρ1 => es.length ≤ sizeLine ∧ Inv es 0 [] ∧ (∀ i e acc, es[i]? = some e → Inv es i acc → pC X vs g (.sh e) (wipeM ρ1 vs) fun ρ2 => pT X tt ρ2 fun b ρ3 =>
      if b = true then pE X te ρ3 fun m ρ4 => wipeM ρ4 vs = wipeM ρ1 vs ∧ ∃ es', m = .ow es' ∧ Inv es (i + 1) (acc ++ [es']) else wipeM ρ3 vs = wipeM ρ1 vs ∧ Inv es (i + 1) acc) ∧ ∀ q bs acc, Inv es es.length acc → Q (.o2 q bs acc) (wipeM ρ1 vs)) :
    pE X (tLc wi g tt te vs) ρ Q := fun B σ H R rel x f => k B σ H _ rel x fun J es F Fσ ρ1 H1 hl r1 it ⟨hz, h0, hs, hd⟩ => fun D hD => by
  have asc : ∀ (a : M) (m : M) (τ : Env), F ++ (a :: m :: τ) = (F ++ [a]) ++ (m :: τ) := fun a m τ => by simp
  have ascσ : ∀ (z : Option V) (τ : L2.St), Fσ ++ (some (.ref D) :: z :: τ) = (Fσ ++ [some (.ref D)]) ++ (z :: τ) := fun z τ => by simp
  have hl2 : ∀ a : M, (F ++ [a]).length = (Fσ ++ [some (V.ref D)]).length := fun a => by simp [hl]
  refine ⟨fun i m H => i + m = es.length ∧ ∃ (bs : List Addr) (acc : List (List E)), bs.length ≤ i ∧ Rel B (F ++ (.o2 D bs acc :: wipeM ρ1 vs)) (Fσ ++ (some (.ref D) :: L2.wipe σ vs)) H ∧ Inv es i acc,
    ⟨es.length, by omega, [], [], Nat.le_refl _, ?_, h0⟩, fun i m H2 ⟨hm, bs, acc, ha, r2, hi⟩ => ?_⟩
  · have r0 := ((r1.hide hl).wipe vs).pushL (es := []) hD (Nat.zero_le _) rfl
    have eo : owns (.o2 D [] [] :: wipeM ρ1 vs) (some (.ref D) :: L2.wipe σ vs) = owns (.ow [] :: wipeM ρ1 vs) (some (.ref D) :: L2.wipe σ vs) := rfl
    exact r1.unhide hl (r0.of (by rw [eo]; exact r0.nd) (fun q h => by rw [← eo]; exact h) (by rw [eo]; exact ⟨⟨rfl, upd_same, Nat.zero_le _, trivial⟩, r0.sl.2⟩))
  cases m with
  | zero =>
    have e : i = es.length := by omega
    subst e
    refine .inl ⟨(it B).stop _ _ H2 r2, ?_⟩
    have r3 := Rel.tails hl r2
    refine f _ (.o2 D bs acc) (wipeM ρ1 vs) H2 ?_ (hd D bs acc hi)
    have r4 : Rel (B.hide (wipeM ρ1 vs) (L2.wipe σ vs) [.o2 D bs acc] [some (.ref D)] H2) (wipeM ρ1 vs) (L2.wipe σ vs) H2 := Rel.hide (ρf := [.o2 D bs acc]) (σf := [some (.ref D)]) r3 rfl
    exact Rel.unhide (ρf := [.o2 D bs acc]) (σf := [some (.ref D)]) r3 rfl r4.unwipe
  | succ m =>
    have hlt : i < es.length := by omega
    obtain ⟨h1, h2⟩ := (it B).go i es[i] _ _ H2 (List.getElem?_eq_getElem hlt) r2
    refine .inr ⟨h1, fun H' => (i + 1) + m = es.length ∧ ∃ (bs : List Addr) (acc : List (List E)), bs.length ≤ i + 1 ∧ Rel B (F ++ (.o2 D bs acc :: wipeM ρ1 vs)) (Fσ ++ (some (.ref D) :: L2.wipe σ vs)) H' ∧ Inv es (i + 1) acc, fun H' h => ⟨m, by omega, h⟩, fun y H' hy => ?_⟩
    have r3 := h2 y H' hy
    have r4 : Rel B (F ++ (.o2 D bs acc :: .sh es[i] :: wipeM ρ1 vs)) (Fσ ++ (some (.ref D) :: some y :: L2.wipe σ vs)) H' := r3.unhide hl (r3.hide hl).swap
    rw [asc, ascσ] at r4
    refine hs i es[i] acc (List.getElem?_eq_getElem hlt) hi _ (L2.wipe σ vs) H' y _ (r4.hide (hl2 _)) (x.hide r4 (hl2 _)) fun ρ5 σ5 H5 ew r5 q5 => ⟨ew.trans wipe_wipe, ?_⟩
    have r6 := r4.unhide (hl2 _) r5
    refine q5 _ σ5 H5 _ (r6.hide (hl2 _)) (x.hide r6 (hl2 _)) fun b ρ7 H7 r7 q7 => ?_
    have r8 := r6.unhide (hl2 _) r7
    cases b with
    | true =>
      refine (show pE X te ρ7 _ from q7) _ σ5 H7 _ (r8.hide (hl2 _)) (x.hide r8 (hl2 _)) fun u m' ρ9 H9 r9 ⟨ew2, es', em, q9⟩ => ?_
      subst em
      obtain ⟨bq, vs', eu, _⟩ := r9.sl.1
      cases eu
      have r10 := r8.unhide (hl2 _) r9
      rw [← asc, ← ascσ] at r10
      obtain ⟨g1, g3⟩ := (r10.hide hl).app2 (by omega)
      refine ⟨bs.map V.ref, g1, by rw [List.length_map]; omega, by omega, bs ++ [bq], acc ++ [es'], by rw [List.length_append]; simpa using ha, ?_, q9⟩
      have r11 := r10.unhide hl g3
      have r12 : Rel B (F ++ (.o2 D (bs ++ [bq]) (acc ++ [es']) :: wipeM ρ9 vs)) (Fσ ++ (some (.ref D) :: L2.wipe σ5 vs)) (upd H9 D (.lst (bs.map V.ref ++ [.ref bq]))) := by
        have a1 : Rel B ((F ++ [.o2 D (bs ++ [bq]) (acc ++ [es'])]) ++ ρ9) ((Fσ ++ [some (.ref D)]) ++ σ5) (upd H9 D (.lst (bs.map V.ref ++ [.ref bq]))) := by simpa using r11
        have a2 := a1.unhide (hl2 _) ((a1.hide (hl2 _)).wipe vs)
        simpa using a2
      rw [ew2, ew.trans wipe_wipe] at r12
      exact r12
    | false =>
      obtain ⟨ew2, q9⟩ := (show wipeM ρ7 vs = wipeM ρ1 vs ∧ Inv es (i + 1) acc from q7)
      refine ⟨by omega, bs, acc, by omega, ?_, q9⟩
      have a2 := r8.unhide (hl2 _) ((r8.hide (hl2 _)).wipe vs)
      rw [ew2, ew.trans wipe_wipe] at a2
      simpa using a2
section
variable {X : XC} {ρ : Env} {Q : M → Env → Prop} {K : PySem.W.Frag} {n : Nat} {ti tj te : TE} {q0 : Addr} {bs0 : List Addr} {ess0 : List (List E)}
/-- t[i][j] -/
theorem p_ix2 (h : ρ[n]? = some (.o2 q0 bs0 ess0)) (k : pE X ti ρ fun m ρ1 => ∃ (i : Int) (a : Nat), m.frz = .sh (.int i) ∧ ρ1[n]? = some (.o2 q0 bs0 ess0) ∧ ixN ess0.length i = some a ∧ a < ess0.length ∧ pE X tj ρ1 fun m2 ρ2 => ∃ (j : Int) (es : List E) (e : E), m2.frz = .sh (.int j) ∧ ρ2[n]? = some (.o2 q0 bs0 ess0) ∧ ess0[a]? = some es ∧ atI es j = some e ∧ Q (.sh e) ρ2) :
    pE X (tOp (rIx K) (tOp (rIx K) (tVar n) ti) tj) ρ Q := fun B σ H R rel x f => by
  obtain ⟨y, hy, rfl, h1, _, h3⟩ := rel.sl.at h
  refine ⟨_, hy, k B σ H _ rel x fun v m ρ1 H1 r1 ⟨i, a, em, h4, h5, h6, q⟩ => ?_⟩
  have r1 := r1.frz
  rw [em] at r1
  obtain rfl := r1.int
  have r1 := r1.tail
  obtain ⟨y2, hy2, e2, g1, _, g3⟩ := r1.sl.at h4
  rw [hy] at hy2
  have hab : a < bs0.length := by rw [g3.len]; exact h6
  have hix : atI (bs0.map V.ref) i = some (.ref bs0[a]) := by
    unfold atI
    rw [List.length_map, g3.len, h5]
    show (bs0.map V.ref)[a]? = _
    rw [List.getElem?_map, List.getElem?_eq_getElem hab]; rfl
  refine r_ixL' g1 hix (q B σ H1 _ r1 x fun w m2 ρ2 H2 r2 ⟨j, es, e, em2, h7, h8, h9, q2⟩ => ?_)
  have r2 := r2.frz
  rw [em2] at r2
  obtain rfl := r2.int
  obtain ⟨y3, hy3, e3, _, _, g4⟩ := r2.tail.sl.at h7
  obtain ⟨b, vs, g5, g6, _, g7⟩ := g4.get h8
  rw [List.getElem?_eq_getElem hab] at g5
  cases g5
  obtain ⟨z, h10, h11⟩ := atI_ev g7 h9
  exact r_ixL' g6 h10 (f _ _ ρ2 H2 (r2.tail.push h11) q2)
/-- t[i][j] = v -/
theorem p_gsub2 {m : M} {QG : Env → Prop} (h : ρ[n]? = some (.o2 q0 bs0 ess0)) (k : ∃ e, m.frz = .sh e ∧ pE X ti ρ fun m1 ρ1 => ∃ (i : Int) (a : Nat), m1.frz = .sh (.int i) ∧ ρ1[n]? = some (.o2 q0 bs0 ess0) ∧ ixN ess0.length i = some a ∧ a < ess0.length ∧ pE X tj ρ1 fun m2 ρ2 => ∃ (j : Int) (es : List E) (b : Nat), m2.frz = .sh (.int j) ∧ ρ2[n]? = some (.o2 q0 bs0 ess0) ∧ ess0[a]? = some es ∧ ixN es.length j = some b ∧ QG (ρ2.set n (.o2 q0 bs0 (ess0.set a (es.set b e))))) :
    pG X (gSub (tOp (rIx K) (tVar n) ti) tj rSetL) m ρ QG := fun B σ H v R rel x f => by
  obtain ⟨e, ee, k⟩ := k
  have rel := rel.frz
  rw [ee] at rel
  obtain ⟨y, hy, rfl, h1, _, h3⟩ := rel.tail.sl.at h
  refine ⟨_, hy, k _ σ H _ (Rel.hide (ρf := [.sh e]) (σf := [some v]) rel rfl) (XOk.hide (ρf := [.sh e]) (σf := [some v]) x rel rfl) fun v1 m1 ρ1 H1 r1 ⟨i, a, em, h4, h5, h6, q⟩ => ?_⟩
  have r1 : Rel B (.sh e :: m1.frz :: ρ1) (some v :: some v1 :: σ) H1 := Rel.unhide (ρf := [.sh e]) (σf := [some v]) rel rfl r1.frz
  rw [em] at r1
  obtain rfl := r1.tail.int
  have r1 := r1.swap.tail
  obtain ⟨y2, hy2, e2, g1, _, g3⟩ := r1.tail.sl.at h4
  have hab : a < bs0.length := by rw [g3.len]; exact h6
  have hix : atI (bs0.map V.ref) i = some (.ref bs0[a]) := by
    unfold atI
    rw [List.length_map, g3.len, h5]
    show (bs0.map V.ref)[a]? = _
    rw [List.getElem?_map, List.getElem?_eq_getElem hab]; rfl
  refine r_ixL' g1 hix (q _ σ H1 _ (Rel.hide (ρf := [.sh e]) (σf := [some v]) r1 rfl) (XOk.hide (ρf := [.sh e]) (σf := [some v]) x r1 rfl) fun w m2 ρ2 H2 r2 ⟨j, es, b, em2, h7, h8, h9, q2⟩ => ?_)
  have r2 : Rel B (.sh e :: m2.frz :: ρ2) (some v :: some w :: σ) H2 := Rel.unhide (ρf := [.sh e]) (σf := [some v]) r1 rfl r2.frz
  rw [em2] at r2
  obtain rfl := r2.tail.int
  have r2 := r2.swap.tail
  have hv := r2.val
  obtain ⟨y3, hy3, e3, _, _, g4⟩ := r2.tail.sl.at h7
  obtain ⟨c, vs, g5, g6, g8, g7⟩ := g4.get h8
  have g5' := g5
  rw [List.getElem?_eq_getElem hab] at g5'
  cases g5'
  exact ⟨_, vs, j, b, rfl, rfl, g6, by rw [g7.length]; exact h9, f _ σ _ (r2.tail.write2 h7 g5 (by rw [List.length_set]; exact g8) (g7.set hv b)) q2⟩
end
/-! ### tables of truth values -/
def rowB (n : Nat) (g : Nat → Bool) : List E := (List.range n).map fun b => .bl (g b)
def tab (n : Nat) (f : Nat → Nat → Bool) : List (List E) := (List.range n).map fun a => rowB n (f a)
theorem rowB_len {n : Nat} {g : Nat → Bool} : (rowB n g).length = n := by unfold rowB; rw [List.length_map, List.length_range]
theorem tab_len {n : Nat} {f : Nat → Nat → Bool} : (tab n f).length = n := by unfold tab; rw [List.length_map, List.length_range]
theorem tab_at {n : Nat} {f : Nat → Nat → Bool} {a : Nat} (h : a < n) : (tab n f)[a]? = some (rowB n (f a)) := by
  unfold tab
  rw [List.getElem?_map, List.getElem?_range h]; rfl
theorem rowB_at {n : Nat} {g : Nat → Bool} {b : Nat} (h : b < n) : (rowB n g)[b]? = some (.bl (g b)) := by
  unfold rowB
  rw [List.getElem?_map, List.getElem?_range h]; rfl
theorem set_range {α : Type} {n : Nat} {g : Nat → α} {a : Nat} {x : α} : ((List.range n).map g).set a x = (List.range n).map fun i => if i = a then x else g i := by
  apply List.ext_getElem?
  intro i
  rw [List.getElem?_set, List.getElem?_map, List.getElem?_map]
  by_cases h : i < n
  · rw [List.getElem?_range h]
    by_cases e : a = i
    · rw [if_pos e, List.length_map, List.length_range, if_pos (by omega)]
      simp [e]
    · rw [if_neg e]
      simp [Ne.symm e]
  · rw [List.getElem?_eq_none (by rw [List.length_range]; omega)]
    by_cases e : a = i
    · rw [if_pos e, List.length_map, List.length_range, if_neg (by omega)]
      rfl
    · rw [if_neg e]; rfl
theorem tab_set {n : Nat} {f : Nat → Nat → Bool} {a b : Nat} {v : Bool} : (tab n f).set a ((rowB n (f a)).set b (.bl v)) = tab n (fun x y => if x = a ∧ y = b then v else f x y) := by
  unfold tab rowB
  rw [set_range, set_range]
  refine List.map_congr_left fun x hx => ?_
  by_cases e : x = a
  · subst e
    rw [if_pos rfl]
    refine List.map_congr_left fun y hy => ?_
    by_cases e2 : y = b
    · simp [e2]
    · simp [e2]
  · rw [if_neg e]
    refine List.map_congr_left fun y hy => ?_
    simp [e]
theorem prE_inj : ∀ {A B : List (Int × Int)}, A.map prE = B.map prE → A = B
  | [], [], _ => rfl
  | [], _ :: _, h => nomatch h
  | _ :: _, [], h => nomatch h
  | p :: A, q :: B, h => by
    simp only [List.map_cons, List.cons.injEq, prE, E.tup.injEq, E.int.injEq] at h
    obtain ⟨⟨h1, h2, _⟩, h3⟩ := h
    rw [prE_inj h3, show p = q from Prod.ext h1 h2]
/-! ### truth -/
def truE : E → Option Bool
  | .bl b => some b
  | .lst es => some (!es.isEmpty)
  | .tup es => some (!es.isEmpty)
  | _ => none
theorem p_tru {X : XC} {ρ : Env} {K : PySem.W.Frag} {ta : TE} {QT : Bool → Env → Prop} (k : pE X ta ρ fun m ρ1 => ∃ e b, m.frz = .sh e ∧ truE e = some b ∧ QT b ρ1) : pT X (tTru K ta) ρ QT := fun B σ H R rel x f =>
  k B σ H _ rel x fun v m ρ1 H1 r1 ⟨e, b, em, hb, q⟩ => by
    have r1 := r1.frz
    rw [em] at r1
    cases e with
    | bl c =>
      cases Option.some.inj hb
      obtain rfl := r1.bl
      exact ⟨_, rfl, f _ ρ1 H1 r1.tail q⟩
    | lst es =>
      cases Option.some.inj hb
      obtain ⟨p, rfl⟩ := r1.refL
      obtain ⟨vs, h1, h2⟩ := r1.slotL
      refine ⟨_, .inl ⟨vs, SqL.of h1, ?_⟩, f _ ρ1 H1 r1.tail q⟩
      have := h2.length
      cases vs <;> cases es <;> simp_all
    | tup es =>
      cases Option.some.inj hb
      obtain ⟨p, rfl⟩ := r1.refT
      obtain ⟨vs, h1, h2⟩ := r1.slotT
      refine ⟨_, .inr (.inl ⟨vs, SqT.of h1, ?_⟩), f _ ρ1 H1 r1.tail q⟩
      have := h2.length
      cases vs <;> cases es <;> simp_all
    | _ => cases hb
theorem ex_tru {m : M} {e : E} {b : Bool} {R : Bool → Prop} (h : m.frz = .sh e) (h2 : truE e = some b) (k : R b) : ∃ e' b', m.frz = .sh e' ∧ truE e' = some b' ∧ R b' := ⟨e, b, h, h2, k⟩
end Pl

set_option Elab.async false
set_option linter.all false
set_option maxRecDepth 100000
set_option maxHeartbeats 4000000
/-! Pr: comprehensions with two fors. -/
namespace Pl
open PySem L2 Gx PySem.Spec PyProof.Rows
section
variable {B : Bs} {ρ F : Env} {σ Fσ : L2.St} {H : Hp} {m : M} {x : Option V}
theorem Rel.rot (hl : F.length = Fσ.length) : Rel B (m :: (F ++ ρ)) (x :: (Fσ ++ σ)) H ↔ Rel B (F ++ (m :: ρ)) (Fσ ++ (x :: σ)) H := by
  have p : (owns (F ++ (m :: ρ)) (Fσ ++ (x :: σ))).Perm (owns (m :: (F ++ ρ)) (x :: (Fσ ++ σ))) := by
    show (owns (F ++ (m :: ρ)) (Fσ ++ (x :: σ))).Perm (own m x ++ owns (F ++ ρ) (Fσ ++ σ))
    rw [owns_append hl, owns_append hl]
    show (owns F Fσ ++ (own m x ++ owns ρ σ)).Perm (own m x ++ (owns F Fσ ++ owns ρ σ))
    rw [← List.append_assoc, ← List.append_assoc]
    exact List.perm_append_comm.append_right _
  constructor
  · intro r
    have sW := wos_perm (H := H) (p.append_right B.O1)
    have s1 := (Slots.append hl).mp r.sl.2
    exact r.of (p.nodup_iff.mpr r.nd) (fun q h => p.mem_iff.mp h) ((Slots.append hl).mpr ⟨s1.1.mono sW fun _ _ _ e => e, r.sl.1.mono sW fun _ _ _ e => e, s1.2.mono sW fun _ _ _ e => e⟩)
  · intro r
    have sW := wos_perm (H := H) (p.symm.append_right B.O1)
    have s1 := (Slots.append hl).mp r.sl
    exact r.of (p.symm.nodup_iff.mpr r.nd) (fun q h => p.symm.mem_iff.mp h) ⟨s1.2.1.mono sW fun _ _ _ e => e, (Slots.append hl).mpr ⟨s1.1.mono sW fun _ _ _ e => e, s1.2.2.mono sW fun _ _ _ e => e⟩⟩
end
theorem p_lc2 {X : XC} {ρ : Env} {Q : M → Env → Prop} {wi wi1 : TI} {g g1 : TG} {tt tt1 : TT} {te : TE} {vs vs1 : List Nat} (Inv : List E → Nat → List E → Prop)
    (k : pI X wi ρ fun es ρ1 => Inv es 0 [] ∧ (∀ i e acc, es[i]? = some e → Inv es i acc → pC X vs g (.sh e) (wipeM ρ1 vs) fun ρ2 => pT X tt ρ2 fun b ρ3 =>
      if b = true then pI X wi1 ρ3 fun es1 ρ4 => ∃ In : Nat → List E → Prop, In 0 acc ∧ (∀ j e1 acc1, es1[j]? = some e1 → In j acc1 → pC X vs1 g1 (.sh e1) (wipeM ρ4 vs1) fun ρ5 => pT X tt1 ρ5 fun b ρ6 =>
        if b = true then pE X te ρ6 fun m ρ7 => wipeM ρ7 vs1 = wipeM ρ4 vs1 ∧ ∃ e', m.frz = .sh e' ∧ acc1.length < sizeLine ∧ In (j + 1) (acc1 ++ [e']) else wipeM ρ6 vs1 = wipeM ρ4 vs1 ∧ In (j + 1) acc1) ∧ (wipeM (wipeM ρ4 vs1) vs = wipeM ρ1 vs ∧ ∀ acc1, In es1.length acc1 → Inv es (i + 1) acc1)
      else wipeM ρ3 vs = wipeM ρ1 vs ∧ Inv es (i + 1) acc) ∧ ∀ acc, Inv es es.length acc → Q (.ow acc) (wipeM ρ1 vs)) (hv : ∀ i ∈ vs1, i ∈ vs) :
    pE X (tLc2 wi g tt wi1 g1 tt1 te vs vs1) ρ Q := fun B σ H R rel x f => k B σ H _ rel x fun J es F Fσ ρ1 H1 hl r1 it ⟨h0, hs, hd⟩ => fun D hD => by
  have asc : ∀ (a : M) (m : M) (τ : Env), F ++ (a :: m :: τ) = (F ++ [a]) ++ (m :: τ) := fun a m τ => by simp
  have ascσ : ∀ (z : Option V) (τ : L2.St), Fσ ++ (some (.ref D) :: z :: τ) = (Fσ ++ [some (.ref D)]) ++ (z :: τ) := fun z τ => by simp
  have hl2 : ∀ a : M, (F ++ [a]).length = (Fσ ++ [some (V.ref D)]).length := fun a => by simp [hl]
  have wv : ∀ {τ : L2.St}, L2.wipe (L2.wipe τ vs1) vs = L2.wipe τ vs := wipe_sub hv
  refine ⟨fun i m H => i + m = es.length ∧ ∃ acc : List E, Rel B (F ++ (.ow acc :: wipeM ρ1 vs)) (Fσ ++ (some (.ref D) :: L2.wipe σ vs)) H ∧ Inv es i acc,
    ⟨es.length, by omega, [], r1.unhide hl (((r1.hide hl).wipe vs).pushL hD (Nat.zero_le _) rfl), h0⟩, fun i m H2 ⟨hm, acc, r2, hi⟩ => ?_⟩
  cases m with
  | zero =>
    have e : i = es.length := by omega
    subst e
    refine .inl ⟨(it B).stop _ _ H2 r2, ?_⟩
    have r3 := Rel.tails hl r2
    refine f _ (.ow acc) (wipeM ρ1 vs) H2 ?_ (hd acc hi)
    have r4 : Rel (B.hide (wipeM ρ1 vs) (L2.wipe σ vs) [.ow acc] [some (.ref D)] H2) (wipeM ρ1 vs) (L2.wipe σ vs) H2 := Rel.hide (ρf := [.ow acc]) (σf := [some (.ref D)]) r3 rfl
    exact Rel.unhide (ρf := [.ow acc]) (σf := [some (.ref D)]) r3 rfl r4.unwipe
  | succ m =>
    have hlt : i < es.length := by omega
    obtain ⟨h1, h2⟩ := (it B).go i es[i] _ _ H2 (List.getElem?_eq_getElem hlt) r2
    refine .inr ⟨h1, fun H' => (i + 1) + m = es.length ∧ ∃ acc : List E, Rel B (F ++ (.ow acc :: wipeM ρ1 vs)) (Fσ ++ (some (.ref D) :: L2.wipe σ vs)) H' ∧ Inv es (i + 1) acc, fun H' h => ⟨m, by omega, h⟩, fun y H' hy => ?_⟩
    have r3 := h2 y H' hy
    have r4 : Rel B (F ++ (.ow acc :: .sh es[i] :: wipeM ρ1 vs)) (Fσ ++ (some (.ref D) :: some y :: L2.wipe σ vs)) H' := r3.unhide hl (r3.hide hl).swap
    rw [asc, ascσ] at r4
    refine hs i es[i] acc (List.getElem?_eq_getElem hlt) hi _ (L2.wipe σ vs) H' y _ (r4.hide (hl2 _)) (x.hide r4 (hl2 _)) fun ρ5 σ5 H5 ew r5 q5 => ⟨ew.trans wipe_wipe, ?_⟩
    have r6 := r4.unhide (hl2 _) r5
    refine q5 _ σ5 H5 _ (r6.hide (hl2 _)) (x.hide r6 (hl2 _)) fun b ρ7 H7 r7 q7 => ?_
    have r8 := r6.unhide (hl2 _) r7
    cases b with
    | false =>
      obtain ⟨ew2, q9⟩ := (show wipeM ρ7 vs = wipeM ρ1 vs ∧ Inv es (i + 1) acc from q7)
      refine ⟨by omega, acc, ?_, q9⟩
      have a2 := r8.unhide (hl2 _) ((r8.hide (hl2 _)).wipe vs)
      rw [ew2, ew.trans wipe_wipe] at a2
      simpa using a2
    | true =>
      refine (show pI X wi1 ρ7 _ from q7) _ σ5 H7 _ (r8.hide (hl2 _)) (x.hide r8 (hl2 _)) fun J1 es1 F1 F1σ ρ9 H9 hl1 r9 it1 ⟨In, q0, qs, qw, qd⟩ => ?_
      -- D's slot goes behind the inner walk's own
      have r10 : Rel B (F ++ (M.ow acc :: (F1 ++ ρ9))) (Fσ ++ (some (.ref D) :: (F1σ ++ σ5))) H9 := by
        have a1 := r8.unhide (hl2 _) r9
        simpa using a1
      have hlF : (F ++ F1).length = (Fσ ++ F1σ).length := by simp [hl, hl1]
      have toIn : ∀ {a : List E} {τ : Env} {s : L2.St} {G : Hp}, Rel B (F ++ (M.ow a :: (F1 ++ τ))) (Fσ ++ (some (.ref D) :: (F1σ ++ s))) G → Rel B ((F ++ F1) ++ (M.ow a :: τ)) ((Fσ ++ F1σ) ++ (some (.ref D) :: s)) G := fun r => by
        have a1 := r.unhide hl ((Rel.rot hl1).mp (r.hide hl))
        simpa using a1
      have toOut : ∀ {a : List E} {τ : Env} {s : L2.St} {G : Hp}, Rel B ((F ++ F1) ++ (M.ow a :: τ)) ((Fσ ++ F1σ) ++ (some (.ref D) :: s)) G → Rel B (F ++ (M.ow a :: τ)) (Fσ ++ (some (.ref D) :: s)) G := fun {a τ s G} r => by
        have a1 : Rel B (F ++ (F1 ++ (M.ow a :: τ))) (Fσ ++ (F1σ ++ (some (.ref D) :: s))) G := by simpa using r
        exact a1.unhide hl (Rel.tails hl1 (a1.hide hl))
      have w0 : ∀ {a : List E} {τ : Env} {s : L2.St} {G : Hp} (us : List Nat), Rel B ((F ++ F1) ++ (M.ow a :: τ)) ((Fσ ++ F1σ) ++ (some (.ref D) :: s)) G → Rel B ((F ++ F1) ++ (M.ow a :: wipeM τ us)) ((Fσ ++ F1σ) ++ (some (.ref D) :: L2.wipe s us)) G := fun {a τ s G} us r => by
        have hq : ((F ++ F1) ++ [M.ow a]).length = ((Fσ ++ F1σ) ++ [some (V.ref D)]).length := by simp [hl, hl1]
        have a1 : Rel B (((F ++ F1) ++ [M.ow a]) ++ τ) (((Fσ ++ F1σ) ++ [some (V.ref D)]) ++ s) G := by simpa using r
        have a2 := a1.unhide hq ((a1.hide hq).wipe us)
        simpa using a2
      refine ⟨fun j k G => j + k = es1.length ∧ ∃ acc1 : List E, Rel B ((F ++ F1) ++ (M.ow acc1 :: wipeM ρ9 vs1)) ((Fσ ++ F1σ) ++ (some (.ref D) :: L2.wipe σ5 vs1)) G ∧ In j acc1, ⟨es1.length, by omega, acc, w0 vs1 (toIn r10), q0⟩, fun j kk G ⟨hjk, acc1, rG, hin⟩ => ?_⟩
      have rO := toOut rG
      have rF : Rel B (F ++ (F1 ++ (M.ow acc1 :: wipeM ρ9 vs1))) (Fσ ++ (F1σ ++ (some (.ref D) :: L2.wipe σ5 vs1))) G := by simpa using rG
      cases kk with
      | zero =>
        have e : j = es1.length := by omega
        subst e
        refine .inl ⟨(it1 _).stop _ _ G (rF.hide hl), by omega, acc1, ?_, qd acc1 hin⟩
        have a1 := toOut (w0 vs rG)
        rw [qw, wv, ew.trans wipe_wipe] at a1
        exact a1
      | succ kk =>
        have hltj : j < es1.length := by omega
        obtain ⟨g1', g2⟩ := (it1 _).go j es1[j] _ _ G (List.getElem?_eq_getElem hltj) (rF.hide hl)
        refine .inr ⟨g1', fun G' => (j + 1) + kk = es1.length ∧ ∃ acc1 : List E, Rel B ((F ++ F1) ++ (M.ow acc1 :: wipeM ρ9 vs1)) ((Fσ ++ F1σ) ++ (some (.ref D) :: L2.wipe σ5 vs1)) G' ∧ In (j + 1) acc1, fun G' h => ⟨kk, by omega, h⟩, fun y1 G' hy1 => ?_⟩
        have r11 : Rel B ((F ++ F1) ++ (.sh es1[j] :: M.ow acc1 :: wipeM ρ9 vs1)) ((Fσ ++ F1σ) ++ (some y1 :: some (.ref D) :: L2.wipe σ5 vs1)) G' := by
          have a1 := rF.unhide hl (g2 y1 G' hy1)
          simpa using a1
        have hq : ((F ++ F1) ++ [M.ow acc1]).length = ((Fσ ++ F1σ) ++ [some (V.ref D)]).length := by simp [hl, hl1]
        have r12 : Rel B (((F ++ F1) ++ [M.ow acc1]) ++ (.sh es1[j] :: wipeM ρ9 vs1)) (((Fσ ++ F1σ) ++ [some (V.ref D)]) ++ (some y1 :: L2.wipe σ5 vs1)) G' := by
          have a1 := r11.unhide hlF (r11.hide hlF).swap
          simpa using a1
        refine qs j es1[j] acc1 (List.getElem?_eq_getElem hltj) hin _ (L2.wipe σ5 vs1) G' y1 _ (r12.hide hq) (x.hide r12 hq) fun ρa σa Ha ewa ra qa => ⟨ewa.trans wipe_wipe, ?_⟩
        have rb := r12.unhide hq ra
        refine qa _ σa Ha _ (rb.hide hq) (x.hide rb hq) fun b ρc Hc rc qc => ?_
        have rd := rb.unhide hq rc
        cases b with
        | true =>
          refine (show pE X te ρc _ from qc) _ σa Hc _ (rd.hide hq) (x.hide rd hq) fun u m' ρe He re ⟨ewe, e', em, hz, qe⟩ => ?_
          have re := re.frz
          rw [em] at re
          have rf := rd.unhide hq re
          have rf2 : Rel B ((F ++ F1) ++ (M.ow acc1 :: .sh e' :: ρe)) ((Fσ ++ F1σ) ++ (some (.ref D) :: some u :: σa)) He := by simpa using rf
          obtain ⟨vs', k1, k2, k3⟩ := (rf2.hide hlF).app hz
          refine ⟨vs', k1, k2, by omega, acc1 ++ [e'], ?_, qe⟩
          have rg := w0 vs1 (rf2.unhide hlF k3)
          rw [ewe, ewa.trans wipe_wipe] at rg
          exact rg
        | false =>
          obtain ⟨ewe, qe⟩ := (show wipeM ρc vs1 = wipeM ρ9 vs1 ∧ In (j + 1) acc1 from qc)
          refine ⟨by omega, acc1, ?_, qe⟩
          have rd2 : Rel B ((F ++ F1) ++ (M.ow acc1 :: ρc)) ((Fσ ++ F1σ) ++ (some (.ref D) :: σa)) Hc := by simpa using rd
          have rg := w0 vs1 rd2
          rw [ewe, ewa.trans wipe_wipe] at rg
          exact rg
end Pl

set_option Elab.async false
set_option linter.all false
set_option maxRecDepth 100000
set_option maxHeartbeats 4000000
/-! Ps: not of a value of any kind. -/
namespace Pl
open PySem L2 Gx PySem.Spec PyProof.Rows
theorem k_notT {X : Cx} {a : Expr} {pos : Pos} {ta : TE} (K : PySem.W.Frag) (ha : PE X a ta) (hK : X.K = K := by rfl) : PE X (.UnaryOp .Not a pos) (tNotT K ta) := by
  subst hK
  exact pe_notT ha
theorem p_notT {X : XC} {ρ : Env} {K : PySem.W.Frag} {ta : TE} {Q : M → Env → Prop} (k : pE X ta ρ fun m ρ1 => ∃ e b, m.frz = .sh e ∧ truE e = some b ∧ Q (.sh (.bl (!b))) ρ1) : pE X (tNotT K ta) ρ Q := fun B σ H R rel x f =>
  k B σ H _ rel x fun v m ρ1 H1 r1 ⟨e, b, em, hb, q⟩ => by
    have r1 := r1.frz
    rw [em] at r1
    have fin := fun c => f _ _ ρ1 H1 (r1.tail.push (e := .bl c) rfl)
    cases e with
    | bl c =>
      cases Option.some.inj hb
      obtain rfl := r1.bl
      exact ⟨_, rfl, fin _ q⟩
    | lst es =>
      cases Option.some.inj hb
      obtain ⟨p, rfl⟩ := r1.refL
      obtain ⟨vs, h1, h2⟩ := r1.slotL
      refine ⟨_, .inl ⟨vs, SqL.of h1, ?_⟩, fin _ q⟩
      have := h2.length
      cases vs <;> cases es <;> simp_all
    | tup es =>
      cases Option.some.inj hb
      obtain ⟨p, rfl⟩ := r1.refT
      obtain ⟨vs, h1, h2⟩ := r1.slotT
      refine ⟨_, .inr (.inl ⟨vs, SqT.of h1, ?_⟩), fin _ q⟩
      have := h2.length
      cases vs <;> cases es <;> simp_all
    | _ => cases hb
end Pl

set_option linter.all false
set_option exponentiation.threshold 20000
/-! Pu: binomials, boxes, a determinant: integers alone. -/
namespace Pl
/-! binomials by Pascal's rule -/
def ch : Nat → Nat → Nat
  | _, 0 => 1
  | 0, _ + 1 => 0
  | n + 1, k + 1 => ch n k + ch n (k + 1)
def fac : Nat → Nat
  | 0 => 1
  | n + 1 => fac n * (n + 1)
/-- the law's way: a product, divided step by step -/
def chF (n : Nat) : Nat → Nat
  | 0 => 1
  | k + 1 => chF n k * (n - k) / (k + 1)
end Pl

set_option Elab.async false
set_option linter.all false
set_option maxRecDepth 100000
set_option maxHeartbeats 4000000
/-! Pt: comb, great divisions, while, a list or a tuple taken apart, isinstance within a suite. -/
namespace Gx
open PySem PySem.Spec PyProof.Rows L2
/-! ### a global that is a built-in -/
def cBf (x : Str) (b : String) : Ck := fun K => He.eqO (PySem.W.nsIn K mainGlobals x) (some (some (.builtin b)))
def rComb : List V → Hp → VK → Prop := fun vs H Q => ∃ a b : Nat, vs = [.int (a : Int), .int (b : Int)] ∧ a ≤ 18000 ∧ Q (.int (PySem.W.mcComb (a : Int) (b : Int))) H
/-! ### great factors, great divisors -/
def rMulW : R2 := rI CMulW fun i j => .int (i * j)
/-- what the run's own tables say of a long division -/
def seerB (K : PySem.W.Frag) : Bool :=
  PySem.W.nsOkIn K cStatics && (He.eqO (PySem.W.nsIn K cStatics "sys.audit-hooks") (some none) && (He.eqO (PySem.W.nsIn K cStatics "sys.dict") (some none) &&
  (PySem.W.nsOkIn K sysModules && (He.eqO (PySem.W.nsIn K sysModules "_pylong") (some none) &&
  (match PySem.W.nsIn K mainGlobals "__builtins__" with
    | some (some (.ref b)) => (match K.lookup b with
      | some o => decide (o.cls = .type "module") && decide (o.dict = some builtinsNs)
      | none => false)
    | _ => false)))))
/-- the program is given no tree of files -/
class NoTree (P : Program) : Prop where
  h : P.given.tree = none
def rDivP : R2 := rI (fun _ j => 0 < j) fun i j => .int (i / j)
/-! ### the head's test with the run's own tables -/
def asS (g : Addr → Option Obj) (n : Nat) : List Addr := cStatics :: sysModules :: He.asD g n
def obsBS (n : Nat) (ch : List Ck) (fn : List DefE) (g : Addr → Option Obj) : AlB := obsB ch fn (He.frG g (asS g n))
def hookS (n : Nat) (ch : List Ck) (fn : List DefE) : PySem.W.Hook where
  α := AlB
  obs := fun s => obsBS n ch fn s.heap.get?
  val := fun _ => valB fn
  says := fun _ h => ∃ K : PySem.W.Frag, K.In h ∧ SaysB ch fn K
  of := fun _ _ e => ⟨_, He.frG_in, e⟩
  keeps := fun _ _ _ ⟨K, hK, c⟩ k => ⟨K, PySem.W.Frag.In.keeps hK k, c⟩
/-! ### a target list over a list or a tuple -/
def gOr (t u : TG) : TG := fun v σ H Q => t v σ H Q ∨ u v σ H Q
end Gx
namespace Pl
open PySem L2 Gx PySem.Spec PyProof.Rows
/-! ### binomials -/
section
variable {Q : M → Prop} {K : PySem.W.Frag} {i j : Int} {es : List E} {X : XC} {ρ : Env} {P : Post}
/-! ### while -/
/-! ### what is returned is shared from then on -/
/-! ### a target list -/
end
/-! ### isinstance of the exception in hand -/
section
variable {X : XC} {ρ : Env} {QE : M → Env → Prop} {K : PySem.W.Frag} {a D : Addr} {d : Option Addr} {te tc : TE} {tcs : TA}
theorem XDst {B : Bs} {σ : L2.St} {H : Hp} (x : XOk B X) (r : Rel B ρ σ H) (hd : d = none ∨ ∃ dd f e, d = some dd ∧ X.pin = some (dd, f, e)) : DictSt H d := by
  rcases hd with rfl | ⟨dd, f, e, rfl, hp⟩
  · trivial
  · obtain ⟨v, p1, p2, _⟩ := x.pn dd f e hp
    exact ⟨_, r.fr dd _ p2 p1⟩
theorem p_isX {i : Nat} {c : V} {cv : Value} {b : Bool} (C : ExC K D) (hd : d = none ∨ ∃ dd f e, d = some dd ∧ X.pin = some (dd, f, e)) (hc : ClsV c cv) (hk : PySem.W.kitOne K (.ref D) cv = some b) (h : ρ[i]? = some (.sh (eX a))) (k : QE (.sh (.bl b)) ρ) :
    pE X (tCB (rIsXG K a (.ref D) d) (tCons (tVar i) (tCons (tC c) tNil))) ρ QE := fun B σ H R r x ff => by
  obtain ⟨y, h1, h2⟩ := r.read h
  obtain ⟨_, _, rfl⟩ := h2.val
  exact ⟨_, h1, r_isX C (XDst x r hd) hc hk (ff _ _ ρ H (r.push (e := .bl b) rfl) k)⟩
theorem p_isX3 {i : Nat} {c1 c2 c3 : V} {u1 u2 u3 : Value} {b : Bool} (C : ExC K D) (hd : d = none ∨ ∃ dd f e, d = some dd ∧ X.pin = some (dd, f, e)) (e1 : ClsV c1 u1) (e2 : ClsV c2 u2) (e3 : ClsV c3 u3) (hk : PySem.W.kitAny K (.ref D) [u1, u2, u3] = some b) (h : ρ[i]? = some (.sh (eX a))) (k : QE (.sh (.bl b)) ρ) :
    pE X (tCB (rIsXG K a (.ref D) d) (tCons (tVar i) (tCons (tTup (tCons (tC c1) (tCons (tC c2) (tCons (tC c3) tNil)))) tNil))) ρ QE := fun B σ H R r x ff => by
  obtain ⟨y, h1, h2⟩ := r.read h
  obtain ⟨_, _, rfl⟩ := h2.val
  refine ⟨_, h1, (by show 3 ≤ sizeLine; decide), fun p hp => ?_⟩
  have r2 := r.grow (same_new (o := .tup [c1, c2, c3]) hp)
  exact r_isX2 C (XDst x r2 hd) upd_same (.cons e1 (.cons e2 (.cons e3 .nil))) hk (ff _ _ ρ _ (r2.push (e := .bl b) rfl) k)
theorem kit_any3 {t u1 u2 u3 : Value} {b1 b2 b3 : Bool} (h1 : PySem.W.kitOne K t u1 = some b1) (h2 : PySem.W.kitOne K t u2 = some b2) (h3 : PySem.W.kitOne K t u3 = some b3) : PySem.W.kitAny K t [u1, u2, u3] = some (b1 || (b2 || b3)) := by
  cases b1 <;> cases b2 <;> cases b3 <;> simp [PySem.W.kitAny, h1, h2, h3]
end
end Pl

set_option Elab.async false
set_option linter.all false
set_option maxRecDepth 100000
set_option maxHeartbeats 4000000
/-! Px: plain data stands for itself; a dict copied key by key. -/
namespace Pl
open PySem L2 Gx PySem.Spec PyProof.Rows
mutual
def esz : E → Nat
  | .lst es => 1 + eszs es
  | .tup es => 1 + eszs es
  | .dic ps => 1 + eszk ps
  | _ => 1
def eszs : List E → Nat
  | [] => 0
  | e :: es => esz e + eszs es
def eszk : List (L2.Key × E) → Nat
  | [] => 0
  | (_, e) :: ps => esz e + eszk ps
end
/-! a part of plain data does not lean on the whole -/
/-! ### keys -/
theorem EvK.keys {H : Hp} : ∀ {ps : List (L2.Key × E)} {ks : List (L2.Key × V)}, EvK H ks ps → ks.map (·.1) = ps.map (·.1)
  | [], ks, q => by rw [show ks = [] from q]; rfl
  | (k, e) :: ps, _, ⟨v, r, e1, q, t⟩ => by rw [e1, List.map_cons, List.map_cons, EvK.keys t]
theorem EvK.get {H : Hp} : ∀ {ps : List (L2.Key × E)} {ks : List (L2.Key × V)} {i : Nat} {k : L2.Key} {e : E}, EvK H ks ps → ps[i]? = some (k, e) → ∃ v, ks[i]? = some (k, v) ∧ Ev H v e
  | [], _, _, _, _, _, h => by simp at h
  | (k', e') :: ps, _, 0, _, _, ⟨v, r, e1, q, t⟩, h => by
    cases Option.some.inj h
    exact ⟨v, by rw [e1]; rfl, q⟩
  | (k', e') :: ps, _, i + 1, _, _, ⟨v, r, e1, q, t⟩, h => by
    obtain ⟨y, h1, h2⟩ := EvK.get t (i := i) (by simpa using h)
    exact ⟨y, by rw [e1]; simpa using h1, h2⟩
theorem EvK.append {H : Hp} : ∀ {ps qs : List (L2.Key × E)} {ks ls : List (L2.Key × V)}, EvK H ks ps → EvK H ls qs → EvK H (ks ++ ls) (ps ++ qs)
  | [], _, ks, _, q, z => by
    rw [show ks = [] from q]
    exact z
  | (k, e) :: ps, _, _, ls, ⟨v, r, e1, q, t⟩, z => ⟨v, r ++ ls, by rw [e1]; rfl, q, EvK.append t z⟩
mutual
/-- no dict has a key twice -/
def kyOk : E → Bool
  | .lst es => kyOks es
  | .tup es => kyOks es
  | .dic ps => decide ((ps.map (·.1)).Nodup) && kyOkk ps
  | _ => true
def kyOks : List E → Bool
  | [] => true
  | e :: es => kyOk e && kyOks es
def kyOkk : List (L2.Key × E) → Bool
  | [] => true
  | (_, e) :: ps => kyOk e && kyOkk ps
end
/-! ### what a slot says of its value's length -/
/-- plain data -/
theorem plain_kn {K : PySem.W.Frag} {e : E} (h : plain e = true) : kn K e := by
  cases e <;> first | trivial | (simp [plain] at h; done)
theorem plains_mem : ∀ {es : List E}, plains es = true → ∀ x ∈ es, plain x = true
  | [], _, _, h => nomatch h
  | e :: es, h, x, hx => by
    have a := He.ba (show (plain e && plains es) = true from h)
    rcases List.mem_cons.mp hx with rfl | z
    · exact a.1
    · exact plains_mem a.2 x z
/-! ### the first member that is no int within bounds -/
def bFault (least most greatest : Int) (e : E) : Option (Option Nat) := match seqOf e with
  | none => some none
  | some es => if least ≤ (es.length : Int) ∧ (es.length : Int) ≤ most then (match es.findIdx? (fun x => !inRE 1 greatest x) with
    | none => none
    | some i => some (some i)) else some none
/-- what an exception tells of it -/
def badE : Option Nat → E
  | none => .non
  | some i => .int (i : Nat)
end Pl

set_option Elab.async false
set_option linter.all false
set_option exponentiation.threshold 20000
namespace Pl
/-! the counts of boxes, the determinant -/
/-- the product of i + j + 1 + c for the j below b -/
def nA (c i : Nat) : Nat → Nat
  | 0 => 1
  | b + 1 => nA c i b * (i + b + 1 + c)
def abv (c b : Nat) : Nat → Nat
  | 0 => 1
  | a + 1 => abv c b a * nA c a b
def ovr (c b : Nat) : Nat → Nat
  | 0 => 1
  | a + 1 => ovr c b a * ch (a + b + c) c
def und (c : Nat) : Nat → Nat
  | 0 => 1
  | a + 1 => und c a * ch (a + c) c
/-- the number of things of a tower of span 3, as the law has it -/
def numN (a b c : Nat) : Nat := abv c b a / abv 0 b a
/-! the determinant by elimination without fractions -/
def detRow (d h0 r0 : Int) : List Int → List Int → List Int
  | h :: hs, r :: rs => ((h0 * r - r0 * h) / d) :: detRow d h0 r0 hs rs
  | _, _ => []
def detBig : Nat := 2 ^ 400
def detOk (x : Int) : Bool := Nat.blt x.natAbs detBig
def detOkR (n : Nat) (r : List Int) : Bool := Nat.beq r.length n && r.all detOk
def detStep (d h0 : Int) (ht : List Int) : List Int → List Int
  | r0 :: rt => detRow d h0 r0 ht rt
  | [] => []
def detB : Nat → Int → List (List Int) → Option Int
  | 0, _, _ => none
  | _ + 1, _, [] => none
  | _ + 1, _, [head] => head.head?
  | n + 1, d, head :: r1 :: rest => match head with
    | [] => none
    | h0 :: ht => if decide (0 < d) && detOk d && (head :: r1 :: rest).all (detOkR (ht.length + 1)) then detB n h0 ((r1 :: rest).map (detStep d h0 ht)) else none
def detTab (a b c : Nat) : List (List Int) := (List.range c).map fun i => (List.range c).map fun j => (((if a + i < j then 0 else chF (a + b) (a + i - j)) : Nat) : Int)
def detChk (a b c : Nat) : Bool := match detB 13 1 (detTab a b c) with
  | some x => decide (x = (numN a b c : Int))
  | none => false
def allTo (f : Nat → Bool) : Nat → Bool
  | 0 => true
  | n + 1 => f (n + 1) && allTo f n
set_option maxRecDepth 100000
/-- condensation -/
def joinB (a b c : Nat) : Bool := decide (a < 2) || decide (b < 2) || decide (11 < a) || decide (11 < b) || decide (c < 3) || decide (numN a b c * numN a b (c - 2) + numN (a + 1) (b - 1) (c - 1) * numN (a - 1) (b + 1) (c - 1) = numN a b (c - 1) * numN a b (c - 1))
end Pl

set_option Elab.async false
set_option linter.all false
set_option maxRecDepth 100000
set_option maxHeartbeats 4000000
set_option exponentiation.threshold 20000
/-! Py: counts of boxes over values seen whole. -/
namespace Pl
open PySem L2 Gx PySem.Spec PyProof.Rows
def natsE (e : E) : List Nat := match seqOf e with
  | some es => es.map fun x => match x with
    | .int i => i.toNat
    | _ => 0
  | none => []
def num3 (l : List Nat) : Nat := numN (l.getD 0 0) (l.getD 1 0) (l.getD 2 0)
def numE (e : E) : Nat := num3 (natsE e ++ [1, 1])
theorem natAbs_pow {x n : Nat} (h : x ≤ 2 ^ n) : ((x : Nat) : Int).natAbs < 2 ^ (n + 1) := by
  rw [Int.natAbs_natCast, Nat.pow_succ]
  have := Nat.two_pow_pos n
  omega
/-- a binomial whose lower number may be negative -/
def chI (n : Nat) (k : Int) : Nat := if k < 0 then 0 else ch n k.toNat
/-- a table of integers -/
abbrev intR (r : List Int) : E := .lst (r.map E.int)
theorem p_try0 {X : XC} {ρ : Env} {P : Post} {K : PySem.W.Frag} {tb : WX → TS} {l : List Clause} {Qx : Env → Value → XD → Prop} (k : ∀ W, pS ⟨W, Qx, X.pin⟩ (tb W) ρ P) (h : ∀ ρ' cls xd, Qx ρ' cls xd → pH K (noX X.pin) P ρ' cls xd l) : pS X (tTryC K tb (fun _ _ _ _ => False) l) ρ P := fun B σ H D r x ok =>
  p_try (X := noX X.pin) k h B σ H D r ⟨fun _ _ _ _ _ _ _ _ z => z.elim, x.pn⟩ ok
theorem hit {K : PySem.W.Frag} {X : XC} {P : Post} {ρ : Env} {cls : Value} {xd : XD} {k : Clause} {r : List Clause} (h : PySem.W.exmOne K cls k.cls = some true) (s : ∀ a d, hasD xd d → pS (noX (pinOf xd d)) (k.suite a cls d) (inM k.slot a ρ) (unP k.slot P)) : pH K X P ρ cls xd (k :: r) := ⟨true, h, fun _ => s, nofun⟩
theorem miss {K : PySem.W.Frag} {X : XC} {P : Post} {ρ : Env} {cls : Value} {xd : XD} {k : Clause} {r : List Clause} (h : PySem.W.exmOne K cls k.cls = some false) (s : pH K X P ρ cls xd r) : pH K X P ρ cls xd (k :: r) := ⟨false, h, nofun, fun _ => s⟩
/-! ### plain data of little depth -/
def gd3 (e : E) : Prop := plain e = true ∧ kyOk e = true ∧ dep e ≤ 3
def gd (e : E) : Prop := plain e = true ∧ kyOk e = true ∧ dep e ≤ 4
def ok10 (e : E) : Prop := plain e = true ∧ kyOk e = true ∧ dep e < 10
theorem gd.ok {e : E} (h : gd e) : plain e = true ∧ kyOk e = true ∧ dep e < 10 := ⟨h.1, h.2.1, by have := h.2.2; omega⟩
theorem gd3.up {e : E} (h : gd3 e) : gd e := ⟨h.1, h.2.1, by have := h.2.2; omega⟩
end Pl

set_option Elab.async false
set_option linter.all false
set_option maxRecDepth 100000
set_option maxHeartbeats 4000000
set_option exponentiation.threshold 20000
/-! Pz: sums; rows of binomials. -/
namespace Pl
open PySem L2 Gx PySem.Spec PyProof.Rows
theorem EvL.ints {H : Hp} : ∀ {ns : List Int} {vs : List V}, EvL H vs (ns.map E.int) → vs = ns.map V.int
  | [], vs, q => q
  | n :: ns, _, ⟨v, r, e, q, t⟩ => by
    rw [e, show v = V.int n from q, EvL.ints t]
    rfl
/-- a row of binomials -/
def rowC (w n : Nat) : List Int := (List.range n).map fun k => ((ch w k : Nat) : Int)
end Pl

set_option Elab.async false
set_option linter.all false
set_option maxRecDepth 100000
set_option maxHeartbeats 4000000
/-! Gy: own exceptions held as values. -/
namespace Gx
open PySem PySem.Spec PyProof.Rows L2 PySem.HandSPX
section
variable {nm q : Str} {C N : Addr} {bs bm bB : List Value} {hdct : Bool} {sn : List Str} {sub : List Value} {ab : Bool} {col : Option Bool} {dd : Option Addr} {k0 k1 k2 k3 k5 : Option Value} {B nId iId : String} {kws : List (Str × Value)} {rs : List Value}
section
variable {Md : Model} {A : Around} {E : Value → Shared → Prop} {hp : Heap} {g : Array GenState} {dr : Drawn} {tk : Nat} {os : OsState}
end
section
variable {prog : Program} {w : World} {A : Around} {E : Value → Shared → Prop} {R : Result → Shared → Prop} {hp : Heap} {g : Array GenState} {dr : Drawn} {tk : Nat} {os : OsState}
end
end
end Gx

set_option Elab.async false
set_option linter.all false
set_option maxRecDepth 100000
set_option maxHeartbeats 4000000
/-! Gz: own exceptions held as values: made, read, asked. -/
namespace Gx
open PySem L2 PySem.Spec PyProof.Rows
/-- C(e, .., k = v, ..) as a value -/
def tMakeX (C : Addr) (n m : Nat) (sp : Sp) (gV : List V → List V → List V) (t tk : TA) : TE := fun σ H Q => t σ H fun vs H1 => tk σ H1 fun zs H2 => vs.length = n ∧ zs.length = m ∧ n ≤ 1000 ∧
  ∀ x, H2 x = none → sp (gV (.ref x :: vs) zs) (upd H2 x (exo x C none)) (fun v H3 => v = .non ∧ Q (.ref x) H3) (fun _ _ _ => False)
section
variable {X : Cx} {CX : CXT} {k n : Nat} {fI C : Addr} {fd : FuncData} {ps ks : List Str} {sp : Sp} {x : Str} {p pos : Pos} {e : Expr} {es : List Expr} {kws : List Keyword} {t tk : TA} {g : List Value → List Value → List Value} {gV : List V → List V → List V}
end
/-! a field of an exception that is held -/
def tXv (K : PySem.W.Frag) (n : Str) (te : TE) : TE := fun σ H Q => te σ H fun x H1 => ∃ (a C dx : Addr) (fs : List (Str × V)) (v : V), x = .ref a ∧ XfC K C ∧ PySem.W.findIn K (.ref C) n = some none ∧
  H1 a = some (exo a C (some dx)) ∧ H1 dx = some (exd dx fs) ∧ fs.lookup n = some v ∧ Q v H1
/-! an exception that is held: its class; asked by isinstance -/
def HeldX (H : Hp) (a C : Addr) : Prop := (∃ dx fs, H a = some (exo a C (some dx)) ∧ H dx = some (exd dx fs)) ∨ H a = some (ExO (.ref C) a)
def rIsV (K : PySem.W.Frag) : List V → Hp → VK → Prop := fun xs H Q => ∃ (a D : Addr) (c : V) (cv : Value) (b : Bool), xs = [.ref a, c] ∧ HeldX H a D ∧ ExC K D ∧ ClsV c cv ∧ PySem.W.kitOne K (.ref D) cv = some b ∧ Q (.bl b) H
/-- C(), without own __init__ -/
def tMakeX0 (C : Addr) : TE := fun _ H Q => ∀ a, H a = none → Q (.ref a) (upd H a (ExO (.ref C) a))
end Gx

set_option Elab.async false
set_option linter.all false
set_option maxRecDepth 100000
set_option maxHeartbeats 4000000
/-! Pw: own exceptions held as values, seen whole. -/
namespace Pl
open PySem L2 Gx PySem.Spec PyProof.Rows
/-- an exception of the class at C whose fields are these -/
def xP (C : Addr) (fs : List (Str × E)) : Hp → V → Prop := fun H v => ∃ a dx fv, v = .ref a ∧ H a = some (exo a C (some dx)) ∧ H dx = some (exd dx fv) ∧ ∀ f e, fs.lookup f = some e → ∃ w, fv.lookup f = some w ∧ Ev H w e
def xE (C : Addr) (fs : List (Str × E)) : E := .pr (xP C fs)
/-- one without fields -/
def x0E (C : Addr) : E := .pr fun H v => ∃ a, v = .ref a ∧ H a = some (ExO (.ref C) a)
def IsX (e : E) (C : Addr) : Prop := (∃ fs, e = xE C fs) ∨ e = x0E C
theorem IsX.held {e : E} {C : Addr} (h : IsX e C) {H : Hp} {v : V} (q : Ev H v e) : ∃ a, v = .ref a ∧ HeldX H a C := by
  rcases h with ⟨fs, rfl⟩ | rfl
  · obtain ⟨H1, s, a, dx, fv, rfl, h1, h2, _⟩ := q
    exact ⟨a, rfl, .inl ⟨dx, fv, s _ _ h1, s _ _ h2⟩⟩
  · obtain ⟨H1, s, a, rfl, h1⟩ := q
    exact ⟨a, rfl, .inr (s _ _ h1)⟩
/-- what an __init__ that stores its arguments does -/
def InitsX (C : Addr) (fns : List Str) (sp : Sp) : Prop := ∀ (a : Addr) (ws : List V) (H : Hp) (Q : VK) (E : XK), ws.length = fns.length → H a = some (exo a C none) →
  (∀ dx H', H dx = none → dx ≠ a → (∀ b o, b ≠ a → H b = some o → H' b = some o) → H' a = some (exo a C (some dx)) → (∃ fv, H' dx = some (exd dx fv) ∧ ∀ f v, (fns.zip ws).lookup f = some v → fv.lookup f = some v) → Q .non H') → sp (.ref a :: ws) H Q E
/-- two fields, stored one after the other -/
def spInit2 (K : PySem.W.Frag) (C : Addr) (f1 f2 : Str) : Sp := fun vs H Q _ => ∃ (a : Addr) (v1 v2 : V), vs = [.ref a, v1, v2] ∧ H a = some (exo a C none) ∧
  ∀ dx, H dx = none → dx ≠ a → Q .non (upd (upd (upd H dx (exd dx [(f1, v1)])) a (exo a C (some dx))) dx (exd dx [(f2, v2), (f1, v1)]))
section
variable {X : XC} {ρ : Env} {Q : M → Env → Prop} {t tk : TA} {te tc : TE} {C : Addr} {K : PySem.W.Frag} {fns : List Str} {sp : Sp}
variable {f f1 f2 : Str} {n m : Nat}
end
/-- a contract out of a family -/
def spEx (g : Nat → List M → Option Br) : Sp := fun vs H Q E => ∃ i, spC (ctF (g i)) vs H Q E
/-- what isinstance says of one of the classes: itself, one of the two above it -/
def kindsE (k : Nat) : List E := ((List.range 17).map fun j => .bl (decide (k = j))) ++ [.bl true, .bl true]
/-! all the classes that are asked for, two by two -/
structure KitAll (K : PySem.W.Frag) (cs : List Addr) (hue : Addr) : Prop where
  two : ∀ (i j : Nat) (C D : Addr), cs[i]? = some C → cs[j]? = some D → PySem.W.kitOne K (.ref C) (.ref D) = some (decide (i = j))
  hue : ∀ C ∈ cs, PySem.W.kitOne K (.ref C) (.ref hue) = some true
  ve : ∀ C ∈ cs, PySem.W.kitOne K (.ref C) (.type "ValueError") = some true
  ex : ∀ C ∈ cs, ExC K C
def kitRow (K : PySem.W.Frag) (C : Addr) (i : Nat) : Nat → List Addr → Bool
  | _, [] => true
  | j, D :: r => decide (PySem.W.kitOne K (.ref C) (.ref D) = some (decide (i = j))) && kitRow K C i (j + 1) r
def kitRows (K : PySem.W.Frag) (cs : List Addr) (hue : Addr) : Nat → List Addr → Bool
  | _, [] => true
  | i, C :: r => kitRow K C i 0 cs && (decide (PySem.W.kitOne K (.ref C) (.ref hue) = some true) && (decide (PySem.W.kitOne K (.ref C) (.type "ValueError") = some true) && (exCB K C && kitRows K cs hue (i + 1) r)))
def cKits (xs : List Str) (hue : Str) : Ck := fun K => kitRows K (xs.map (He.ga K)) (He.ga K hue) 0 (xs.map (He.ga K))
end Pl

set_option Elab.async false
set_option linter.all false
set_option maxRecDepth 100000
set_option maxHeartbeats 4000000
/-! Qa: abs, powers of any base, answers told by what goes on behind them, lists made one by one. -/
namespace Pl
open PySem L2 Gx PySem.Spec PyProof.Rows
/-! ### abs, great powers -/
def rAbs : List V → Hp → VK → Prop := fun vs H Q => ∃ i : Int, vs = [.int i] ∧ Q (.int (i.natAbs : Nat)) H
def CPowW (i j : Int) : Prop := 0 ≤ j ∧ (Builtin.Int.intBits i : Int) * j ≤ 2 ^ 27
def rPowW : R2 := rI CPowW fun i j => .int (i ^ j.toNat)
section
variable {Q : M → Prop} {i j : Int} {K : PySem.W.Frag} {X : XC} {ρ : Env}
end
/-! ### sequences of either kind -/
def sq : E → Option (List E)
  | .lst es => some es
  | .tup es => some es
  | _ => none
section
variable {Q : M → Prop} {i : Int} {K : PySem.W.Frag} {X : XC} {ρ : Env} {es : List E} {e x : E} {QI : List E → Env → Prop} {j : Nat}
theorem sq_cases (h : sq e = some es) : e = .lst es ∨ e = .tup es := by
  cases e <;> first | (cases h; first | exact .inl rfl | exact .inr rfl) | cases h
theorem p_isq (h : ρ[j]? = some (.sh e)) (hs : sq e = some es) (k : QI es ρ) : pI X (iOr (iList K (tVar j)) (iTup K (tVar j))) ρ QI := by
  rcases sq_cases hs with rfl | rfl
  · exact p_ior1 (p_ilist (p_var h ⟨_, rfl, k⟩))
  · exact p_ior2 (p_itup (p_var h ⟨_, rfl, k⟩))
end
theorem p_frS {X : XC} {ρ : Env} {P : Post} {t : TS} (i : Nat) {m : M} (h : ρ[i]? = some m) (hm : m ≠ .no) (k : pS X t (ρ.set i m.frz) P) : pS X t ρ P := fun B σ H D r x f => by
  obtain ⟨v, h1, h2⟩ := r.readO h hm
  exact k B σ H D h2.tail x f
theorem p_isqO {X : XC} {ρ : Env} {K : PySem.W.Frag} {QI : List E → Env → Prop} {j : Nat} {es : List E} (h : ρ[j]? = some (.ow es)) (k : QI es (ρ.set j (.sh (.lst es)))) : pI X (iOr (iList K (tVar j)) (iTup K (tVar j))) ρ QI :=
  p_ior1 (p_ilist (p_varW h ⟨_, rfl, k⟩))
/-! ### list(range(..)), tuple(range(..)) -/
/-! ### an answer told by what goes on behind it -/
/-- asks A, gives what S tells, raises nothing -/
abbrev brs (A : Prop) (S : (M → Prop) → Prop) : Br := ⟨A, fun r => ∀ R : M → Prop, S R → R r, fun _ _ => False⟩
section
variable {f : List M → Option Br} {ms : List M} {A : Prop} {S : (M → Prop) → Prop} {R : M → Prop} {Z : Value → XD → Prop}
theorem cbS (h1 : f ms = some (brs A S)) (h2 : A) (k : S R) : ∃ b, f ms = some b ∧ b.pre ∧ (∀ cls xd, ¬ b.xp cls xd) ∧ ∀ m, b.post m → R m := ⟨_, h1, h2, fun _ _ z => z, fun m hm => hm R k⟩
end
/-! ### lists made one by one -/
/-- two lists, member by member -/
def Each (P : E → E → Prop) : List E → List E → Prop
  | [], [] => True
  | a :: as, b :: bs => P a b ∧ Each P as bs
  | _, _ => False
theorem Each.snoc {P : E → E → Prop} {a b : E} (h : P a b) : ∀ {as bs : List E}, Each P as bs → Each P (as ++ [a]) (bs ++ [b])
  | [], [], _ => ⟨h, trivial⟩
  | _ :: _, _ :: _, q => ⟨q.1, Each.snoc h q.2⟩
  | [], _ :: _, q => q.elim
  | _ :: _, [], q => q.elim
theorem Each.len {P : E → E → Prop} : ∀ {as bs : List E}, Each P as bs → as.length = bs.length
  | [], [], _ => rfl
  | _ :: _, _ :: _, q => congrArg (· + 1) (Each.len q.2)
  | [], _ :: _, q => q.elim
  | _ :: _, [], q => q.elim
theorem Each.get {P : E → E → Prop} : ∀ {as bs : List E}, Each P as bs → ∀ {i : Nat} {a b : E}, as[i]? = some a → bs[i]? = some b → P a b
  | a :: as, b :: bs, q, 0, _, _, h1, h2 => by cases Option.some.inj h1; cases Option.some.inj h2; exact q.1
  | a :: as, b :: bs, q, i + 1, _, _, h1, h2 => Each.get q.2 (i := i) (by simpa using h1) (by simpa using h2)
  | [], [], _, _, _, _, h, _ => by simp at h
  | [], _ :: _, q, _, _, _, _, _ => q.elim
  | _ :: _, [], q, _, _, _, _, _ => q.elim
section
variable {X : XC} {ρ : Env} {Q : M → Env → Prop} {wi : TI} {gt : TG} {te : TE} {vs : List Nat}
theorem p_each (P : E → E → Prop) (k : pI X wi ρ fun es ρ1 => es.length ≤ sizeLine ∧ (∀ x ∈ es, pC X vs gt (.sh x) (wipeM ρ1 vs) fun ρ2 => pE X te ρ2 fun m ρ4 => wipeM ρ4 vs = wipeM ρ1 vs ∧ ∃ y, m.frz = .sh y ∧ P x y) ∧ ∀ acc, Each P es acc → Q (.ow acc) (wipeM ρ1 vs)) :
    pE X (tLc wi gt tYes te vs) ρ Q := by
  refine p_lc (fun L i acc => Each P (L.take i) acc) fun B σ H R rel xo f => k B σ H R rel xo fun J es F Fσ ρ' H' hl r1 it q => f J es F Fσ ρ' H' hl r1 it ?_
  obtain ⟨hz, hs, hd⟩ := q
  refine ⟨hz, trivial, ?_, ?_⟩
  · rintro i e acc he ha
    intro B σ H v R r xo f
    refine hs e (List.mem_of_getElem? he) B σ H v R r xo fun ρ' σ' H' hw r' q => f ρ' σ' H' hw r' (p_yes ?_)
    refine q.mono fun m ρ4 ⟨h1, y, h2, h3⟩ => ⟨h1, _, h2, ?_⟩
    rw [List.take_add_one, he]
    exact ha.snoc h3
  · rintro acc ha
    rw [List.take_length] at ha
    exact hd acc ha
end
end Pl

set_option Elab.async false
set_option linter.all false
set_option maxRecDepth 100000
set_option maxHeartbeats 4000000
/-! Qb: what is owned lent for one reading; own lists within own lists. -/
namespace Pl
open PySem L2 Gx PySem.Spec PyProof.Rows
/-! ### values that nothing can change -/
mutual
def imm : E → Bool
  | .non | .bl _ | .int _ | .str _ => true
  | .tup es => imms es
  | _ => false
def imms : List E → Bool
  | [] => true
  | e :: es => imm e && imms es
end
mutual
theorem Ev.imm {W W' : Hp} (h : ∀ b vs, W b = some (.tup vs) → W' b = some (.tup vs)) : ∀ {e : E} {v : V}, Pl.imm e = true → Ev W v e → Ev W' v e
  | .non, _, _, q => q
  | .bl _, _, _, q => q
  | .int _, _, _, q => q
  | .str _, _, _, q => q
  | .tup es, _, k, ⟨p, vs, e, hp, hl, q⟩ => ⟨p, vs, e, h _ _ hp, hl, EvL.imm h k q⟩
  | .lst _, _, k, _ => by cases k
  | .dic _, _, k, _ => by cases k
  | .dit _, _, k, _ => by cases k
  | .ob _ _, _, k, _ => by cases k
  | .pr _, _, k, _ => by cases k
theorem EvL.imm {W W' : Hp} (h : ∀ b vs, W b = some (.tup vs) → W' b = some (.tup vs)) : ∀ {es : List E} {vs : List V}, imms es = true → EvL W vs es → EvL W' vs es
  | [], _, _, q => q
  | _ :: _, _, k, ⟨v, r, e, q, t⟩ => ⟨v, r, e, Ev.imm h (Bool.and_eq_true_iff.mp k).1 q, EvL.imm h (Bool.and_eq_true_iff.mp k).2 t⟩
end
/-- an answer that holds nothing of what is lent -/
def immM : M → Bool
  | .sh e => imm e
  | .ow es => imms es
  | _ => false
/-! ### lending -/
section
variable {B : Bs} {ρ : Env} {σ : L2.St} {H H' : Hp}
theorem owns_map_frz : ∀ (ρ : Env) (σ : L2.St), owns (ρ.map M.frz) σ = []
  | [], _ => rfl
  | _ :: _, [] => rfl
  | m :: ρ, x :: σ => by
    show own m.frz x ++ owns (ρ.map M.frz) σ = []
    rw [own_frz, owns_map_frz ρ σ]
    rfl
theorem Slots.frzAll {st : Option (Addr × Addr)} {W : Hp} : ∀ {ρ : Env} {σ : L2.St}, Slots st H W ρ σ → (∀ q ∈ owns ρ σ, ∀ o, H q = some o → W q = some o) → Slots st H W (ρ.map M.frz) σ
  | [], [], _, _ => trivial
  | _ :: _, _ :: _, h, k => ⟨h.1.frz fun q hq => k q (List.mem_append_left _ hq), Slots.frzAll h.2 fun q hq => k q (List.mem_append_right _ hq)⟩
  | [], _ :: _, h, _ => h.elim
  | _ :: _, [], h, _ => h.elim
/-- where all is lent: nothing that is now there may change -/
def Bs.lend (B : Bs) (H : Hp) : Bs := ⟨H, B.O1, B.st⟩
theorem Rel.lend (R : Rel B ρ σ H) : Rel (B.lend H) (ρ.map M.frz) σ H where
  fr := fun _ _ _ e => e
  sto := fun p c e => ⟨(R.sto p c e).1, (R.sto p c e).2.1, R.alive p (R.sto p c e).2.1, by
    obtain ⟨h1, _, _, h4⟩ := R.sto p c e
    obtain ⟨_, _, _, _, _, _, h5, _⟩ := h1
    show H c ≠ none
    rw [h5]; exact nofun⟩
  ex := R.aliveM
  new := fun q hq => by rw [owns_map_frz] at hq; cases hq
  nd := by rw [owns_map_frz]; exact List.nodup_nil
  sl := by
    rw [owns_map_frz]
    exact (R.sl.mono (wos_less fun b hb => List.mem_append_right _ hb) fun _ _ _ e => e).frzAll fun q hq o e => by
      show wos B.O1 H q = some o
      rw [wos_out (R.dj q hq)]
      exact e
theorem XOk.lend {X : XC} (x : XOk B X) (R : Rel B ρ σ H) : XOk (B.lend H) ⟨fun _ _ _ _ => True, fun _ _ _ => False, X.pin⟩ where
  ex := fun _ _ _ _ _ _ _ _ q => q.elim
  pn := fun dd f e hp => by
    obtain ⟨v, h1, h2, h3⟩ := x.pn dd f e hp
    refine ⟨v, R.fr dd _ h2 h1, h2, h3.mono (wos_same fun b o hb e => ⟨hb, R.fr b o (fun c z => hb (R.sto b c z).2.1) e⟩)⟩
end
section
variable {X : XC} {ρ : Env} {Q : M → Env → Prop} {te : TE} {t : TT}
abbrev lendX (X : XC) : XC := ⟨fun _ _ _ _ => True, fun _ _ _ => False, X.pin⟩
end
/-! ### an own list that holds one more own list -/
/-- the list at q: pre, the list es at b, post; both are no one else's -/
def onB (q b : Addr) (pre es post : List E) : Blob where
  as := [q, b]
  P := fun H W v => v = .ref q ∧ ∃ vs ws us, H q = some (.lst (vs ++ V.ref b :: us)) ∧ (vs ++ V.ref b :: us).length ≤ sizeLine ∧ EvL W vs pre ∧ EvL W us post ∧ H b = some (.lst ws) ∧ ws.length ≤ sizeLine ∧ EvL W ws es
  e := .lst (pre ++ .lst es :: post)
  mono := fun H H' W W' v ⟨e, vs, ws, us, h1, h2, h3, h4, h5, h6, h7⟩ sW sH => ⟨e, vs, ws, us, sH q (List.mem_cons_self ..) _ h1, h2, h3.mono sW, h4.mono sW, sH b (List.mem_cons_of_mem _ (List.mem_cons_self ..)) _ h5, h6, h7.mono sW⟩
  live := fun H W v ⟨e, vs, ws, us, h1, h2, h3, h4, h5, h6, h7⟩ a ha => by
    rcases List.mem_cons.mp ha with rfl | ha
    · exact ⟨_, h1, .inl ⟨_, rfl⟩⟩
    · rw [List.mem_singleton.mp ha]
      exact ⟨_, h5, .inl ⟨_, rfl⟩⟩
  frz := fun H W v ⟨e, vs, ws, us, h1, h2, h3, h4, h5, h6, h7⟩ hw => by
    subst e
    exact ⟨q, _, rfl, hw q (List.mem_cons_self ..) _ h1, h2, h3.append ⟨_, _, rfl, ⟨b, ws, rfl, hw b (List.mem_cons_of_mem _ (List.mem_cons_self ..)) _ h5, h6, h7⟩, h4⟩⟩
abbrev M.on (q b : Addr) (pre es post : List E) : M := .bx (onB q b pre es post)
section
variable {X : XC} {ρ : Env} {K : PySem.W.Frag} {n : Nat} {q b : Addr} {pre es post : List E} {i : Nat} {te tj : TE}
end
/-! ### arguments that stay one's own -/
section
variable {X : XC} {ρ : Env} {ta : TE} {tr : TA} {Q : M → Env → Prop}
end
end Pl

set_option Elab.async false
set_option linter.all false
set_option maxRecDepth 100000
set_option maxHeartbeats 4000000
/-! Qc: max and min of a list, with default=; all, any. -/
namespace Pl
open PySem L2 Gx PySem.Spec PyProof.Rows
/-- max(xs, default=d), min(xs, default=d) of a list of ints -/
def mostV (g : Int → Int → Int) (d : V) : List Int → V
  | [] => d
  | n :: r => .int (r.foldl g n)
def rMostD (g : Int → Int → Int) (K : PySem.W.Frag) : List V → List V → Hp → VK → Prop := fun vs zs H Q => ∃ (a : Addr) (ns : List Int) (d : V), vs = [V.ref a] ∧ zs = [d] ∧ SqL K H a (ns.map V.int) ∧ Q (mostV g d ns) H
def mostE (g : Int → Int → Int) (d : E) : List Int → E
  | [] => d
  | n :: r => .int (r.foldl g n)
section
variable {X : XC} {ρ : Env} {K : PySem.W.Frag} {Q : M → Env → Prop} {t tk : TA} {g : Int → Int → Int}
end
section
variable {K : PySem.W.Frag} {Q : M → Prop} {es : List E}
end
/-! ### a call by one keyword; list.index; a shared own list -/
section
variable {X : XC} {ρ : Env} {Q : M → Env → Prop} {K : PySem.W.Frag}
theorem q_callN1 {tk : TA} {f : List M → Option Br} {Ew : XK} {m : Nat} (hm : m = 1) (k : pA X tk ρ fun ms ρ1 => ∃ e1, ms = [M.sh e1] ∧ ∃ b, f [.sh e1] = some b ∧ b.pre ∧ (∀ cls xd, ¬ b.xp cls xd) ∧ ∀ m, b.post m → Q m ρ1) :
    pE X (tCallN 0 m (spC (ctF f)) (fun us ws => [ws.getD 0 .non]) Ew tNil tk) ρ Q := fun B σ H R rel x ff =>
  k B σ H _ rel x fun vs ms ρ1 H1 hl r1 ⟨e1, em, b, h1, h2, h3, h4⟩ => by
    subst em hm
    obtain ⟨⟨v1, _, rfl, hv1, rfl⟩, r2⟩ := ofSh (es := [e1]) hl r1
    refine ⟨rfl, rfl, ?_⟩
    have r3 : Rel B ([M.sh e1] ++ ρ1) ([v1].map some ++ σ) H1 := r2.push hv1
    exact spC_use rfl r3 ⟨b, h1, h2⟩ (fun v m H' r' ⟨b', h5, q⟩ => ff v m ρ1 H' r' (h4 m (by rw [h1] at h5; cases h5; exact q))) fun cls d xd H' _ _ ⟨b', h5, q⟩ => by
      rw [h1] at h5; cases h5; exact (h3 cls xd q).elim
end
/-! ### a plain value is no instance of an own class -/
def NoK (K : PySem.W.Frag) (C : Addr) : Prop := ∀ n ∈ ["NoneType", "bool", "int", "str", "list", "tuple", "dict"], PySem.W.kitOne K (.type n) (.ref C) = some false
theorem noK_ok {K : PySem.W.Frag} {x : Str} (c : cNoK x K = true) : NoK K (He.ga K x) := fun n hn => of_decide_eq_true (List.all_eq_true.mp c n hn)
theorem iso_plain {K : PySem.W.Frag} {C : Addr} {e : E} (h : NoK K C) (hp : plain e = true) : isOf K C e false := by
  cases e with
  | non => exact ⟨_, .inl ⟨_, rfl, rfl⟩, h _ (by decide)⟩
  | bl b => exact ⟨_, .inl ⟨_, rfl, rfl⟩, h _ (by decide)⟩
  | int i => exact ⟨_, .inl ⟨_, rfl, rfl⟩, h _ (by decide)⟩
  | str x => exact ⟨_, .inl ⟨_, rfl, rfl⟩, h _ (by decide)⟩
  | lst es => exact ⟨_, .inl ⟨_, rfl, rfl⟩, h _ (by decide)⟩
  | tup es => exact ⟨_, .inl ⟨_, rfl, rfl⟩, h _ (by decide)⟩
  | dic ps => exact ⟨_, .inl ⟨_, rfl, rfl⟩, h _ (by decide)⟩
  | dit _ => cases hp
  | ob _ _ => cases hp
  | pr _ => cases hp
theorem iso_one {K : PySem.W.Frag} {C : Addr} {fs : List (Str × E)} {b : Bool} (h : InsK K C) (q : isOf K C (.ob C fs) b) : b = true := by
  obtain ⟨t, g1, g2⟩ := q
  rcases g1 with ⟨_, g, _⟩ | ⟨_, _, g, _, g3⟩ | ⟨g, _⟩
  · cases g
  · cases g
    rw [g3, h.self] at g2
    exact (Option.some.inj g2).symm
  · cases g
theorem iso_self {K : PySem.W.Frag} {C : Addr} {fs : List (Str × E)} (h : InsK K C) : isOf K C (.ob C fs) true := ⟨_, .inr (.inl ⟨_, _, rfl, h, rfl⟩), h.self⟩
theorem ex_meth {m : M} {C : Addr} {fs : List (Str × E)} {fn : Str} {R : List (Str × E) → Prop} (h1 : m.frz = .sh (obE C fs)) (h2 : fs.lookup fn = none) (k : R fs) : ∃ fs, m.frz = .sh (obE C fs) ∧ fs.lookup fn = none ∧ R fs := ⟨fs, h1, h2, k⟩
theorem ex_prop {m : M} {C : Addr} {fs : List (Str × E)} {R : List (Str × E) → Prop} (h1 : m.frz = .sh (obE C fs)) (k : R fs) : ∃ fs, m.frz = .sh (obE C fs) ∧ R fs := ⟨fs, h1, k⟩
end Pl

set_option Elab.async false
set_option linter.all false
set_option maxRecDepth 100000
set_option maxHeartbeats 4000000
/-! operators of an own class: two objects of one class, and the minus in front of one. -/
namespace Gx
open PySem PySem.Spec PyProof.Rows L2
def selfTop (K : PySem.W.Frag) (C : Addr) : Prop := PySem.W.selfFirst K C = true
/-- an object's two-place operator that its class defines -/
def tBinS (C : Addr) (sp : Sp) (E : L2.St → XK) (ta tb : TE) : TE := fun σ H Q => ta σ H fun x G => tb σ G fun y G2 =>
  ∃ (a dx : Addr) (fs : List (Str × V)) (b dy : Addr) (gs : List (Str × V)), x = .ref a ∧ G2 a = some (.ins C dx fs) ∧ y = .ref b ∧ G2 b = some (.ins C dy gs) ∧ sp [x, y] G2 Q (E σ)
def tNegS (C : Addr) (sp : Sp) (E : L2.St → XK) (ta : TE) : TE := fun σ H Q => ta σ H fun x G =>
  ∃ (a dx : Addr) (fs : List (Str × V)), x = .ref a ∧ G a = some (.ins C dx fs) ∧ sp [x] G Q (E σ)
section
variable {X : Cx} {CX : CXT} {k : Nat} {f C : Addr} {fd : FuncData} {ps : List Str} {sp : Sp} {E : L2.St → XK} {E1 : XK} {m : Str} {pos : Pos} {l r : Expr} {ta tb : TE}
theorem rel_ni {v : V} {u : Value} (h : RelV v u) : u ≠ .notImplemented := by
  rintro rfl
  cases v <;> first | exact h.elim | (obtain ⟨_, h⟩ := h; cases h) | cases h
end
end Gx
namespace Gx
open PySem L2 He
def cTop (x : Str) : Ck := fun K => PySem.W.selfFirst K (He.ga K x)
end Gx
namespace Pl
open PySem L2 Gx PySem.Spec PyProof.Rows
section
variable {K : PySem.W.Frag} {C : Addr} {ρ : Env} {Q : M → Env → Prop} {ta tb : TE} {g : List M → Option Br} {E : L2.St → XK} {Ew : XK} {W : WX} {Qx : Env → Value → XD → Prop} {pin : Option (Addr × Str × Pl.E)} {X : XC}
end
theorem flat_len {α : Type} {Fs : Nat → List α} {n c : Nat} (hc : ∀ i, i < n → (Fs i).length ≤ c) : ∀ i, i ≤ n → ((List.range i).flatMap Fs).length ≤ i * c
  | 0, _ => Nat.zero_le _
  | i + 1, h => by
    rw [List.range_succ, List.flatMap_append, List.length_append, Nat.succ_mul]
    have := flat_len hc i (by omega)
    have h2 := hc i (by omega)
    simp only [List.flatMap_cons, List.flatMap_nil, List.append_nil]
    omega
/-- a list by two fors, without tests -/
theorem p_flat {X : XC} {ρ : Env} {Q : M → Env → Prop} {wi wi1 : TI} {g g1 : TG} {te : TE} {vs vs1 : List Nat} (Fs : Nat → List E) (c : Nat)
    (k : pI X wi ρ fun es ρ1 => (∀ i, i < es.length → (Fs i).length ≤ c) ∧ es.length * c ≤ sizeLine ∧ (∀ (i : Nat) e, es[i]? = some e → pC X vs g (.sh e) (wipeM ρ1 vs) fun ρ3 => pI X wi1 ρ3 fun es1 ρ4 => es1.length = (Fs i).length ∧ (∀ (j : Nat) e1, es1[j]? = some e1 → pC X vs1 g1 (.sh e1) (wipeM ρ4 vs1) fun ρ6 =>
        pE X te ρ6 fun m ρ7 => wipeM ρ7 vs1 = wipeM ρ4 vs1 ∧ ∃ e', m.frz = .sh e' ∧ (Fs i)[j]? = some e') ∧ wipeM (wipeM ρ4 vs1) vs = wipeM ρ1 vs) ∧ Q (.ow ((List.range es.length).flatMap Fs)) (wipeM ρ1 vs)) (hv : ∀ i ∈ vs1, i ∈ vs) :
    pE X (tLc2 wi g tYes wi1 g1 tYes te vs vs1) ρ Q := by
  refine p_lc2 (fun L i acc => acc = (List.range i).flatMap Fs) (fun B σ H R rel xo f => k B σ H R rel xo fun J es Fr Fσ ρ' H' hl r1 it q => f J es Fr Fσ ρ' H' hl r1 it ?_) hv
  obtain ⟨hc, hz, hs, hd⟩ := q
  refine ⟨rfl, ?_, ?_⟩
  · rintro i e acc he rfl
    have hi : i < es.length := (List.getElem?_eq_some_iff.mp he).1
    have hfl := flat_len hc i (Nat.le_of_lt hi)
    have hmul : (i + 1) * c ≤ es.length * c := Nat.mul_le_mul_right c hi
    rw [Nat.succ_mul] at hmul
    have hci := hc i hi
    intro B σ H v R r xo f
    refine hs i e he B σ H v R r xo fun ρ3 σ' H' hw r' q => f ρ3 σ' H' hw r' (p_yes ?_)
    intro B2 σ2 H2 R2 rel2 xo2 f2
    refine q B2 σ2 H2 R2 rel2 xo2 fun J es1 F1 F1σ ρ4 H4 hl4 r4 it4 ⟨hlen, hin, hw4⟩ => f2 J es1 F1 F1σ ρ4 H4 hl4 r4 it4 ⟨fun j a => a = (List.range i).flatMap Fs ++ (Fs i).take j, by simp, ?_, hw4, ?_⟩
    · rintro j e1 acc1 he1 rfl
      have hj : j < es1.length := (List.getElem?_eq_some_iff.mp he1).1
      intro B3 σ3 H3 v3 R3 r3 xo3 f3
      refine hin j e1 he1 B3 σ3 H3 v3 R3 r3 xo3 fun ρ6 σ5 H5 hw5 r5 q5 => f3 ρ6 σ5 H5 hw5 r5 (p_yes ?_)
      refine q5.mono fun m ρ7 ⟨h1, e', h2, h3⟩ => ⟨h1, e', h2, ?_, ?_⟩
      · rw [List.length_append, List.length_take]
        omega
      · show _ = (List.range i).flatMap Fs ++ (Fs i).take (j + 1)
        rw [List.append_assoc, List.take_add_one, h3]
        rfl
    · rintro acc1 rfl
      rw [hlen, List.take_length, List.range_succ, List.flatMap_append]
      simp only [List.flatMap_cons, List.flatMap_nil, List.append_nil]
  · rintro acc rfl
    exact hd
end Pl
namespace Pl
open PySem L2 Gx PySem.Spec PyProof.Rows
theorem p_envS {X : XC} {ρ : Env} {P : Post} {t : TS} (ρ' : Env) (h : ρ = ρ') (k : pS X t ρ' P) : pS X t ρ P := h ▸ k
end Pl

set_option Elab.async false
set_option linter.all false
set_option maxRecDepth 100000
set_option maxHeartbeats 4000000
/-! Qe: orders in rows of bits: their covers, their products, boxes of chains. -/
namespace Pl
open PySem L2 Gx PySem.Spec PyProof.Rows
def bt (rs : List Nat) (a c : Nat) : Bool := (rs.getD a 0).testBit c
structure OrdT (rs : List Nat) : Prop where
  len : rs.length ≤ 200
  rng : ∀ a c, bt rs a c = true → a ≤ c ∧ c < rs.length
  refl : ∀ a, a < rs.length → bt rs a a = true
  trans : ∀ a b c, bt rs a b = true → bt rs b c = true → bt rs a c = true
theorem OrdT.lt {rs : List Nat} (h : OrdT rs) {r : Nat} (hr : r ∈ rs) : r < 2 ^ 1000 := by
  obtain ⟨a, ha⟩ := List.getElem?_of_mem hr
  have e : rs.getD a 0 = r := by rw [List.getD_eq_getElem?_getD, ha]; rfl
  refine Nat.lt_of_lt_of_le (Nat.lt_pow_two_of_testBit r fun i hi => ?_) (Nat.pow_le_pow_right (by decide) (show rs.length ≤ 1000 from Nat.le_trans h.len (by decide)))
  cases hb : r.testBit i with
  | false => rfl
  | true =>
    have := (h.rng a i (by unfold bt; rw [e]; exact hb)).2
    omega
theorem OrdT.row {rs : List Nat} (h : OrdT rs) (a : Nat) : rs.getD a 0 < 2 ^ 1000 := by
  by_cases ha : a < rs.length
  · rw [List.getD_eq_getElem?_getD, List.getElem?_eq_getElem ha]
    exact h.lt (List.getElem_mem ha)
  · rw [List.getD_eq_getElem?_getD, List.getElem?_eq_none (by omega)]
    exact Nat.two_pow_pos 1000
theorem IsReach.ordT {N : Nat} {A : List (Int × Int)} {rs : List Nat} (h : IsReach N A rs) (R : Rising N A) (hN : N ≤ 200) : OrdT rs := by
  have hr : ∀ a c, bt rs a c = true → a < N := fun a c hb => by
    by_cases ha : a < N
    · exact ha
    · unfold bt at hb
      rw [List.getD_eq_getElem?_getD, List.getElem?_eq_none (by rw [h.1]; omega)] at hb
      simp at hb
  have rg : ∀ a c, bt rs a c = true → a ≤ c ∧ c < N := fun a c hb => by
    have ha := hr a c hb
    have hq := (h.2 a c ha).mp hb
    have h1 := Rch.le R hq
    have h2 := Rch.lt R hq (by omega)
    exact ⟨by omega, by omega⟩
  refine ⟨by rw [h.1]; exact hN, fun a c hb => by rw [h.1]; exact rg a c hb, fun a ha => (h.2 a a (by rw [← h.1]; exact ha)).mpr (.refl _), fun a b c h1 h2 => ?_⟩
  have ha := hr a b h1
  have hb := hr b c h2
  exact (h.2 a c ha).mpr (Rch.trans ((h.2 a b ha).mp h1) ((h.2 b c hb).mp h2))
/-! ### what lies next above -/
def higherL (rs : List Nat) (a : Nat) : List Nat := (bitsL (rs.getD a 0)).filter fun b => b != a
def beyondN (rs : List Nat) (l : List Nat) : Nat := l.foldl (fun m b => m ||| (rs.getD b 0 ^^^ 2 ^ b)) 0
def nextL (rs : List Nat) (a : Nat) : List Nat := (higherL rs a).filter fun b => !(beyondN rs (higherL rs a)).testBit b
theorem mem_higher {rs : List Nat} {a b : Nat} : b ∈ higherL rs a ↔ bt rs a b = true ∧ b ≠ a := by
  unfold higherL bt
  rw [List.mem_filter, mem_bitsL]
  simp
theorem beyond_bit {rs : List Nat} {b : Nat} : ∀ (l : List Nat) (m : Nat), (l.foldl (fun m b => m ||| (rs.getD b 0 ^^^ 2 ^ b)) m).testBit b = true ↔ m.testBit b = true ∨ ∃ c ∈ l, (rs.getD c 0 ^^^ 2 ^ c).testBit b = true
  | [], m => by simp
  | c :: l, m => by
    rw [List.foldl_cons, beyond_bit l, Nat.testBit_or, Bool.or_eq_true]
    simp only [List.mem_cons, exists_eq_or_imp]
    exact or_assoc
theorem mem_next {rs : List Nat} (O : OrdT rs) {a b : Nat} : b ∈ nextL rs a ↔ bt rs a b = true ∧ b ≠ a ∧ ∀ c, bt rs a c = true → c ≠ a → bt rs c b = true → c = b := by
  unfold nextL
  rw [List.mem_filter, mem_higher, and_assoc]
  refine and_congr_right fun h1 => and_congr_right fun h2 => ?_
  have e : (beyondN rs (higherL rs a)).testBit b = true ↔ ∃ c, (bt rs a c = true ∧ c ≠ a) ∧ bt rs c b = true ∧ c ≠ b := by
    unfold beyondN
    rw [beyond_bit]
    constructor
    · rintro (h | ⟨c, hc, h⟩)
      · simp at h
      · rw [mem_higher] at hc
        rw [Nat.testBit_xor, Nat.testBit_two_pow] at h
        by_cases e : c = b
        · subst e
          rw [show (rs.getD c 0).testBit c = true from O.refl c (O.rng a c hc.1).2] at h
          simp at h
        · rw [decide_eq_false e, Bool.xor_false] at h
          exact ⟨c, hc, h, e⟩
    · rintro ⟨c, hc, h, e⟩
      refine .inr ⟨c, mem_higher.mpr hc, ?_⟩
      rw [Nat.testBit_xor, Nat.testBit_two_pow, decide_eq_false e, Bool.xor_false]
      exact h
  constructor
  · intro h c h3 h4 h5
    refine Classical.byContradiction fun h6 => ?_
    rw [e.mpr ⟨c, ⟨h3, h4⟩, h5, h6⟩] at h
    cases h
  · intro h
    cases hb : (beyondN rs (higherL rs a)).testBit b with
    | false => rfl
    | true =>
      obtain ⟨c, ⟨h3, h4⟩, h5, h6⟩ := e.mp hb
      exact absurd (h c h3 h4 h5) h6
def covL (rs : List Nat) (n : Nat) : List (Int × Int) := (List.range n).flatMap fun a => (nextL rs a).map fun b : Nat => ((a : Int), (b : Int))
theorem mem_cov {rs : List Nat} {n : Nat} {p : Int × Int} : p ∈ covL rs n ↔ ∃ a b : Nat, a < n ∧ b ∈ nextL rs a ∧ p = ((a : Int), (b : Int)) := by
  unfold covL
  rw [List.mem_flatMap]
  constructor
  · rintro ⟨a, ha, h⟩
    obtain ⟨b, hb, rfl⟩ := List.mem_map.mp h
    exact ⟨a, b, List.mem_range.mp ha, hb, rfl⟩
  · rintro ⟨a, b, ha, hb, rfl⟩
    exact ⟨a, List.mem_range.mpr ha, List.mem_map.mpr ⟨b, hb, rfl⟩⟩
theorem OrdT.row200 {rs : List Nat} (O : OrdT rs) (a : Nat) : rs.getD a 0 < 2 ^ 200 :=
  Nat.lt_of_lt_of_le (Nat.lt_pow_two_of_testBit _ fun i hi => by
    cases hb : (rs.getD a 0).testBit i with
    | false => rfl
    | true =>
      have := (O.rng a i hb).2
      omega) (Nat.pow_le_pow_right (by decide) O.len)
theorem bits_len {n k : Nat} (h : n < 2 ^ k) : (bitsL n).length ≤ k := by
  have hb : Builtin.Int.intBits (n : Int) ≤ k := PySem.intBits_le_iff.mpr (by rw [Int.natAbs_natCast]; exact h)
  unfold bitsL
  refine Nat.le_trans (List.length_filter_le ..) ?_
  rw [List.length_range]
  exact hb
theorem next_len {rs : List Nat} (O : OrdT rs) (a : Nat) : (nextL rs a).length ≤ 200 := by
  unfold nextL higherL
  exact Nat.le_trans (List.length_filter_le ..) (Nat.le_trans (List.length_filter_le ..) (bits_len (O.row200 a)))
/-! ### the product of two orders -/
def mulP (A B : List (Int × Int)) (n w : Nat) : List (Int × Int) := (A.flatMap fun p => (List.range w).map fun b : Nat => (p.1 * (w : Int) + (b : Int), p.2 * (w : Int) + (b : Int))) ++ ((List.range n).flatMap fun a : Nat => B.map fun q => ((a : Int) * (w : Int) + q.1, (a : Int) * (w : Int) + q.2))
/-- the rows of a product -/
def MulT (rs qs ts : List Nat) : Prop := OrdT ts ∧ ts.length = rs.length * qs.length ∧ ∀ x y : Nat, x < ts.length → (bt ts x y = true ↔ bt rs (x / qs.length) (y / qs.length) = true ∧ bt qs (x % qs.length) (y % qs.length) = true)
/-! ### chains and boxes -/
def chP (n : Nat) : List (Int × Int) := (List.range (n - 1)).map fun a : Nat => ((a : Int), (a : Int) + 1)
def ChT (n : Nat) (rs : List Nat) : Prop := OrdT rs ∧ rs.length = n ∧ ∀ a c : Nat, a < n → c < n → bt rs a c = decide (a ≤ c)
def prodL (ns : List Nat) : Nat := ns.foldl (· * ·) 1
/-- the digits of a number, the last bound first -/
def digR : List Nat → Nat → List Nat
  | [], _ => []
  | m :: rb, k => k % m :: digR rb (k / m)
def digs (ns : List Nat) (k : Nat) : List Nat := (digR ns.reverse k).reverse
def leR : List Nat → Nat → Nat → Bool
  | [], _, _ => true
  | m :: rb, a, c => decide (a % m ≤ c % m) && leR rb (a / m) (c / m)
def BoxT (ns : List Nat) (rs : List Nat) : Prop := OrdT rs ∧ rs.length = prodL ns ∧ ∀ a c : Nat, a < prodL ns → c < prodL ns → bt rs a c = leR ns.reverse a c
/-- whole numbers out of a list of values -/
def natsL (es : List E) : List Nat := es.map fun e => match e with
  | .int i => i.toNat
  | _ => 0
theorem natsL_nat (rs : List Nat) : natsL (rs.map natE) = rs := by
  unfold natsL
  rw [List.map_map]
  have e : ((fun e : E => match e with
    | .int i => i.toNat
    | _ => 0) ∘ natE) = id := by funext n; show ((n : Int)).toNat = n; omega
  rw [e, List.map_id]
/-- an object of rows of bits that is an order -/
def OrdO (C0 C : Addr) (f : Str) (es : List E) : Prop := C = C0 ∧ f = "_reach" ∧ ∃ rs, es = rs.map natE ∧ OrdT rs
theorem inRE_nat {lo hi : Int} {e : E} (h : inRE lo hi e = true) (h0 : 0 ≤ lo) : ∃ n : Nat, e = .int (n : Int) ∧ lo ≤ n ∧ (n : Int) ≤ hi := by
  cases e with
  | int i =>
    have h2 : (decide (lo ≤ i) && decide (i ≤ hi)) = true := h
    simp only [Bool.and_eq_true, decide_eq_true_eq] at h2
    exact ⟨i.toNat, congrArg E.int (by omega), by omega, by omega⟩
  | _ => cases h
theorem inRE_of {lo hi : Int} {n : Int} (h1 : lo ≤ n) (h2 : n ≤ hi) : inRE lo hi (.int n) = true := by
  show (decide (lo ≤ n) && decide (n ≤ hi)) = true
  rw [decide_eq_true h1, decide_eq_true h2]
  rfl
def riseL (x y : List Nat) : Option Nat := (List.range x.length).find? fun c => decide (x.getD c 0 < y.getD c 0)
def optE : Option Nat → E
  | none => .non
  | some n => .int (n : Int)
theorem bxor_nat (a b : Nat) : Builtin.bitXor (a : Int) (b : Int) = ((a ^^^ b : Nat) : Int) := by
  rw [Bits.bitXor_pp (Int.natCast_nonneg a) (Int.natCast_nonneg b), Int.toNat_natCast, Int.toNat_natCast]
/-- (x >> b) & 1 == 0 -/
theorem bit_eq0 (x b : Nat) : decide (Builtin.bitAnd ((x : Int) / 2 ^ b) 1 = 0) = !x.testBit b := by
  rw [← bit_eq, PyProof.Rows.bitAnd_m1, ← decide_not]
  refine decide_eq_decide.mpr ?_
  have := Int.emod_two_eq ((x : Int) / 2 ^ b)
  omega
def atF {α β : Type} (A : List α) (F : α → List β) (i : Nat) : List β := match A[i]? with
  | some p => F p
  | none => []
end Pl

set_option Elab.async false
set_option linter.all false
set_option maxRecDepth 100000
set_option maxHeartbeats 4000000
/-! Qf: s[::-1] of a list or a tuple. -/
namespace HT
open PySem PySem.Spec PyProof.Rows
section
variable {prog : Program} {w : World} {A : Around} {E : Value → Shared → Prop} {s : Shared}
end
end HT
namespace Gx
open PySem PySem.Spec PyProof.Rows L2
/-- s[::-1], of a list or of a tuple -/
def tRevS (K : PySem.W.Frag) (te : TE) : TE := fun σ H Q => te σ H fun x H1 => ∃ a xs, x = .ref a ∧ ((SqL K H1 a xs ∧ ∀ p, Nw H1 p → Q (.ref p) (upd H1 p (.lst xs.reverse))) ∨ (SqT K H1 a xs ∧ ∀ p, Nw H1 p → Q (.ref p) (upd H1 p (.tup xs.reverse))))
end Gx
namespace Pl
open PySem L2 Gx PySem.Spec PyProof.Rows
end Pl
namespace Pl
open PySem L2 Gx PySem.Spec PyProof.Rows
theorem prod_fold : ∀ (xs : List Nat) (m : Nat), xs.foldl (· * ·) m = m * prodL xs
  | [], m => (Nat.mul_one m).symm
  | x :: xs, m => by
    have h1 : prodL (x :: xs) = x * prodL xs := by
      show xs.foldl (· * ·) (1 * x) = _
      rw [prod_fold xs, Nat.one_mul]
    rw [List.foldl_cons, prod_fold xs, h1, Nat.mul_assoc]
theorem prod_cons (x : Nat) (xs : List Nat) : prodL (x :: xs) = x * prodL xs := by
  show xs.foldl (· * ·) (1 * x) = _
  rw [prod_fold xs, Nat.one_mul]
/-- the number of a row -/
def numL : List Nat → List Nat → Nat → Nat
  | n :: ns, x :: xs, acc => numL ns xs (acc * n + x)
  | _, _, acc => acc
end Pl

set_option Elab.async false
set_option linter.all false
set_option maxRecDepth 100000
set_option maxHeartbeats 4000000
/-! Qg: == and != of two lists of whole numbers. -/
namespace Pl
open PySem L2 Gx PySem.Spec PyProof.Rows
abbrev dN (x : List Nat) : List PyData := x.map fun n : Nat => PyData.int (n : Int)
theorem dpN {K : PySem.W.Frag} {H H' : Hp} : ∀ {x : List Nat} {vs : List V}, EvL H' vs (x.map natE) → DpAll K H vs (dN x)
  | [], vs, h => by
    obtain rfl : vs = [] := h
    exact .nil
  | n :: x, vs, h => by
    obtain ⟨v, r, rfl, h1, h2⟩ := h
    obtain rfl : v = V.int (n : Int) := h1
    exact .cons (.int _) (dpN h2)
theorem dN_lay : ∀ x : List Nat, PyData.canLayAll0 (dN x) = true
  | [] => rfl
  | n :: x => by show (true && PyData.canLayAll0 (dN x)) = true; rw [dN_lay x]; rfl
theorem dN_depth : ∀ x : List Nat, PyData.depthAll (dN x) = 0
  | [] => rfl
  | n :: x => by show max 0 (PyData.depthAll (dN x)) = 0; rw [dN_depth x]; rfl
theorem dN_shaped (x : List Nat) : SeqAt.shaped (.list (dN x)) = true := by
  unfold SeqAt.shaped
  have h1 : PyData.canLay0 (.list (dN x)) = true := by
    rw [PyData.canLay0]
    exact dN_lay x
  have h2 : (PyData.list (dN x)).depth ≤ 64 := by
    rw [PyData.depth, dN_depth]
    decide
  rw [h1, decide_eq_true h2]
  rfl
theorem dN_eqv : ∀ x y : List Nat, PyData.eqvAll (dN x) (dN y) = decide (x = y)
  | [], [] => rfl
  | [], _ :: _ => rfl
  | _ :: _, [] => rfl
  | n :: x, m :: y => by
    show (PyData.eqv (.int (n : Int)) (.int (m : Int)) && PyData.eqvAll (dN x) (dN y)) = decide (n :: x = m :: y)
    rw [dN_eqv x y, show PyData.eqv (.int (n : Int)) (.int (m : Int)) = decide ((n : Int) = (m : Int)) from rfl, ← Bool.decide_and]
    refine decide_eq_decide.mpr ?_
    rw [List.cons.injEq]
    constructor <;> (rintro ⟨h1, h2⟩; exact ⟨by omega, h2⟩)
end Pl

set_option Elab.async false
set_option linter.all false
set_option maxRecDepth 100000
set_option maxHeartbeats 4000000
/-! Qh: sorted of lists of alike data of any length; != of bools; counting up. -/
namespace Pl
open PySem L2 Gx PySem.Spec PyProof.Rows
/-! ### data as the library's sorting sees it -/
mutual
def encP : E → PyData
  | .bl b => .bool b
  | .int i => .int i
  | .str s => .str s
  | .lst es => .list (encPs es)
  | .tup es => .tuple (encPs es)
  | _ => .none
def encPs : List E → List PyData
  | [] => []
  | e :: es => encP e :: encPs es
end
mutual
/-- no dict, no object -/
def flat : E → Bool
  | .non => true
  | .bl _ => true
  | .int _ => true
  | .str _ => true
  | .lst es => flats es
  | .tup es => flats es
  | _ => false
def flats : List E → Bool
  | [] => true
  | e :: es => flat e && flats es
end
mutual
theorem Ev.dp {K : PySem.W.Frag} {H H' : Hp} (s : Same H H') : ∀ {e : E} {v : V}, flat e = true → Ev H v e → Dp K H' v (encP e)
  | .non, v, _, q => by obtain rfl : v = .non := q; exact .non
  | .bl b, v, _, q => by obtain rfl : v = .bl b := q; exact .bl b
  | .int i, v, _, q => by obtain rfl : v = .int i := q; exact .int i
  | .str x, v, _, q => by obtain rfl : v = .str x := q; exact .str x
  | .lst _, _, h, ⟨p, vs, rfl, hp, _, q⟩ => .lst (SqL.of (s _ _ hp)) (EvL.dp s h q)
  | .tup _, _, h, ⟨p, vs, rfl, hp, _, q⟩ => .tup (SqT.of (s _ _ hp)) (EvL.dp s h q)
  | .dic _, _, h, _ => nomatch h
  | .dit _, _, h, _ => nomatch h
  | .ob _ _, _, h, _ => nomatch h
  | .pr _, _, h, _ => nomatch h
theorem EvL.dp {K : PySem.W.Frag} {H H' : Hp} (s : Same H H') : ∀ {es : List E} {vs : List V}, flats es = true → EvL H vs es → DpAll K H' vs (encPs es)
  | [], vs, _, q => by obtain rfl : vs = [] := q; exact .nil
  | e :: es, _, h, ⟨v, r, rfl, q, t⟩ => by
    have h2 := He.ba (show (flat e && flats es) = true from h)
    exact .cons (Ev.dp s h2.1 q) (EvL.dp s h2.2 t)
end
theorem EvL.mem {H : Hp} : ∀ {es : List E} {vs : List V}, EvL H vs es → ∀ b ∈ vs.zip es, Ev H b.1 b.2
  | [], _, _, b, hb => by simp at hb
  | e :: es, _, ⟨v, r, rfl, q, t⟩, b, hb => by
    rcases List.mem_cons.mp (show b ∈ (v, e) :: r.zip es from hb) with rfl | h
    · exact q
    · exact EvL.mem t b h
theorem EvL.ofMem {H : Hp} : ∀ {bs : List (V × E)}, (∀ b ∈ bs, Ev H b.1 b.2) → EvL H (bs.map (·.1)) (bs.map (·.2))
  | [], _ => rfl
  | b :: bs, h => ⟨_, _, rfl, h b (List.mem_cons_self ..), EvL.ofMem fun x hx => h x (List.mem_cons_of_mem _ hx)⟩
theorem vals_each : ∀ {bs : List (V × E)} {us : List Value}, Vals (bs.map (·.1)) us → PySem.W.EachIs (fun u (b : V × E) => RelV b.1 u) us bs
  | [], us, r => by
    have r' : Vals [] us := r
    cases r'
    exact .nil
  | b :: bs, us, r => by
    have r' : Vals (b.1 :: bs.map (·.1)) us := r
    cases r' with
    | cons r0 t => exact .cons r0 (vals_each t)
theorem each_vals : ∀ {bs : List (V × E)} {us : List Value}, PySem.W.EachIs (fun u (b : V × E) => RelV b.1 u) us bs → Vals (bs.map (·.1)) us
  | _, _, .nil => .nil
  | _, _, .cons r t => .cons r (each_vals t)
theorem reads_each {K : PySem.W.Frag} {X : Cx} {pins : List (Addr × Obj)} {σ : L2.St} {H : Hp} {s : Shared} (I : Inv X pins σ H s) : ∀ {bs : List (V × E)} {us : List Value}, Vals (bs.map (·.1)) us → (∀ b ∈ bs, Dp X.K H b.1 (encP b.2)) → PySem.W.EachIs (fun u (b : V × E) => ∃ as, Reads s.heap u (encP b.2) as) us bs
  | [], us, r, _ => by
    have r' : Vals [] us := r
    cases r'
    exact .nil
  | b :: bs, us, r, h => by
    have r' : Vals (b.1 :: bs.map (·.1)) us := r
    cases r' with
    | cons r0 t => exact .cons (Dp.reads I _ _ _ (h b (List.mem_cons_self ..)) r0) (reads_each (K := K) I t fun x hx => h x (List.mem_cons_of_mem _ hx))
/-- which comes first, by what is read -/
abbrev leD (a b : E) : Bool := PySem.W.dataLe false encP a b
/-- sorted(xs), xs a list of alike data -/
def rSortD (K : PySem.W.Frag) : List V → Hp → VK → Prop := fun vs H Q => ∃ (a : Addr) (bs : List (V × E)), vs = [.ref a] ∧ SqL K H a (bs.map (·.1)) ∧ (∀ b ∈ bs, Dp K H b.1 (encP b.2)) ∧ PySem.W.AllAlike (bs.map fun b => encP b.2) ∧ PySem.W.Sortable (bs.map fun b => encP b.2) ∧ (∀ b ∈ bs, (encP b.2).depth ≤ 60) ∧
  ∀ p, Nw H p → Q (.ref p) (upd H p (.lst ((bs.mergeSort (PySem.W.dataLe false fun b : V × E => encP b.2)).map (·.1))))
theorem cr_sortD {X : Cx} (hu : X.A.units + 64 < cLine) : CallR X (.builtin "sorted") (rSortD X.K) := by
  intro pins s σ H vs us Q I r h
  obtain ⟨a, bs, rfl, hs, hd, hal, hk, hdp, q⟩ := h
  obtain ⟨its, rv, hl, hz⟩ := I.list hs
  rw [Vals.ref1 r]
  rw [List.length_map] at hz
  refine PySem.W.sorted_data hl.isList (vals_each rv) (reads_each (K := X.K) I rv hd) hal hk hz (fun b hb => by have := hdp b hb; omega) fun out h1 h2 => ?_
  obtain ⟨ep, he'⟩ := PyProof.Rows.sortedAll_at s.heap its out.toArray
  have hlen : ((bs.mergeSort (PySem.W.dataLe false fun b : V × E => encP b.2)).map (·.1)).length ≤ sizeLine := by
    rw [List.length_map, List.length_mergeSort]
    exact hz
  exact ⟨.ref _, upd H (s.heap.objs.size + 1) (.lst ((bs.mergeSort (PySem.W.dataLe false fun b : V × E => encP b.2)).map (·.1))), I.laid (t' := s.toks) (fun _ _ => PyProof.Rows.sortedAll_old) (Nat.le_succ _) ⟨hlen, out, ep, each_vals h2, he'⟩, rfl, q _ (I.hok.fresh (Nat.le_succ _))⟩
theorem k_sortD {X : Cx} (K : PySem.W.Frag) (hu : X.A.units + 64 < cLine) (hK : X.K = K := by rfl) : CallR X (.builtin "sorted") (rSortD K) := by subst hK; exact cr_sortD hu
theorem zip_map2 : ∀ {vs : List V} {es : List E}, vs.length = es.length → (vs.zip es).map (·.1) = vs ∧ (vs.zip es).map (·.2) = es
  | [], [], _ => ⟨rfl, rfl⟩
  | v :: vs, e :: es, h => by
    have ih := zip_map2 (vs := vs) (es := es) (by simpa using h)
    exact ⟨congrArg (v :: ·) ih.1, congrArg (e :: ·) ih.2⟩
  | [], _ :: _, h => by simp at h
  | _ :: _, [], h => by simp at h
/-- what can be sorted -/
structure SrtOk (es : List E) : Prop where
  fl : ∀ e ∈ es, flat e = true
  al : PySem.W.AllAlike (es.map encP)
  so : PySem.W.Sortable (es.map encP)
  dp : ∀ e ∈ es, (encP e).depth ≤ 60
theorem v_sortD {K : PySem.W.Frag} {Q : M → Prop} {es : List E} (h : SrtOk es) (k : Q (.ow (es.mergeSort leD))) : pL (rSortD K) [.sh (.lst es)] Q := fun B ρ σ H vs R hl r f => by
  match vs, hl, r with
  | [v], _, r =>
    obtain ⟨p, xs, rfl, g1, gz, g2⟩ := r.val
    have hlen := g2.length
    obtain ⟨z1, z2⟩ := zip_map2 hlen
    have hm := g2.mem
    have he : (xs.zip es).map (fun b => encP b.2) = es.map encP := by
      rw [show (fun b : V × E => encP b.2) = encP ∘ (fun b : V × E => b.2) from rfl, ← List.map_map, z2]
    have hmem : ∀ b ∈ xs.zip es, b.2 ∈ es := fun b hb => by
      have : b.2 ∈ (xs.zip es).map (·.2) := List.mem_map_of_mem hb
      rwa [z2] at this
    refine ⟨p, xs.zip es, rfl, by rw [z1]; exact SqL.of (wos_some g1).2, fun b hb => Ev.dp wos_sub (h.fl _ (hmem b hb)) (hm b hb), by rw [he]; exact h.al, by rw [he]; exact h.so, fun b hb => h.dp _ (hmem b hb), fun a ha => ?_⟩
    have hE : EvL (wos (owns ρ σ ++ B.O1) H) (((xs.zip es).mergeSort (PySem.W.dataLe false fun b : V × E => encP b.2)).map (·.1)) (((xs.zip es).mergeSort (PySem.W.dataLe false fun b : V × E => encP b.2)).map (·.2)) := EvL.ofMem fun b hb => hm b (List.mem_mergeSort.mp hb)
    have hs : ((xs.zip es).mergeSort (PySem.W.dataLe false fun b : V × E => encP b.2)).map (·.2) = es.mergeSort leD := by
      have e := List.map_mergeSort (r := PySem.W.dataLe false fun b : V × E => encP b.2) (s := leD) (f := fun b : V × E => b.2) (l := xs.zip es) (fun a _ b _ => rfl)
      rw [e, z2]
    rw [hs] at hE
    exact f _ (.ow (es.mergeSort leD)) _ (r.tail.pushL ha (by rw [List.length_map, List.length_mergeSort, List.length_zip]; omega) hE) k
end Pl

set_option Elab.async false
set_option linter.all false
set_option maxRecDepth 100000
set_option maxHeartbeats 4000000
/-! Qi: range downwards; closed lots of an order in rows of bits, sorted by size. -/
namespace Pl
open PySem L2 Gx PySem.Spec PyProof.Rows
/-- i, i - 1, .. -/
def rngD (i : Int) (n : Nat) : List E := (List.range n).map fun k : Nat => E.int (i - k)
/-! ### sets of things in bits -/
def bitsN (ts : List Nat) : Nat := (ts.map fun t => 2 ^ t).sum
theorem list_snoc_ind {α : Type} {P : List α → Prop} (h0 : P []) (hs : ∀ l x, P l → P (l ++ [x])) (l : List α) : P l := by
  have go : ∀ l : List α, P l.reverse := by
    intro l
    induction l with
    | nil => exact h0
    | cons x l ih => rw [List.reverse_cons]; exact hs _ _ ih
  have := go l.reverse
  rwa [List.reverse_reverse] at this
theorem bitsL_asc (n : Nat) : (bitsL n).Pairwise (· < ·) := List.Pairwise.filter _ List.pairwise_lt_range
def natI : E → Nat
  | .int i => i.toNat
  | _ => 0
/-- has with each thing all above it -/
def ClosedB (rs : List Nat) (B : Nat) : Prop := (∀ a, B.testBit a = true → a < rs.length) ∧ ∀ a c, B.testBit a = true → bt rs a c = true → B.testBit c = true
def needB (rs : List Nat) (t : Nat) : Nat := bitsN ((bitsL (rs.getD t 0)).drop 1)
def stepC (rs F : List Nat) (t : Nat) : List Nat := F ++ (F.filter fun b => decide (b &&& needB rs t = needB rs t)).map (· ||| 2 ^ t)
def allCk (rs : List Nat) : Nat → List Nat
  | 0 => [0]
  | k + 1 => stepC rs (allCk rs k) (rs.length - 1 - k)
def allC (rs : List Nat) : List Nat := allCk rs rs.length
/-! ### sorted by size, the larger ones first -/
def lotLe (x y : List Nat) : Bool := decide (y.length < x.length ∨ (x.length = y.length ∧ x ≤ y))
def pairE (x : List Nat) : E := .tup [.int (-(x.length : Int)), .tup (x.map natE)]
/-- the closed lots, as lists of things, sorted -/
def lotsN (rs : List Nat) : List (List Nat) := ((allC rs).map bitsL).mergeSort lotLe
end Pl

set_option Elab.async false
set_option linter.all false
set_option maxRecDepth 100000
set_option maxHeartbeats 4000000
/-! Qj: closed lots of a box of chains and their heights. -/
namespace Pl
open PySem L2 Gx PySem.Spec PyProof.Rows
/-- the numbers of the rows that are one lower in one entry; the last bound first -/
def lowR : List Nat → Nat → Nat → List Nat
  | [], _, _ => []
  | m :: rb, i, s => (if 0 < (i / s) % m then [i - s] else []) ++ lowR rb i (s * m)
theorem lowR_scale : ∀ (rb : List Nat) (i s w : Nat), 0 < w → 0 < s → (∀ m ∈ rb, 1 ≤ m) → lowR rb i (w * s) = (lowR rb (i / w) s).map fun j => j * w + i % w
  | [], _, _, _, _, _, _ => rfl
  | m :: rb, i, s, w, hw, hs, hm => by
    have m1 := hm m (List.mem_cons_self ..)
    show (if 0 < (i / (w * s)) % m then [i - w * s] else []) ++ lowR rb i (w * s * m) = List.map _ ((if 0 < (i / w / s) % m then [i / w - s] else []) ++ lowR rb (i / w) (s * m))
    rw [List.map_append, Nat.mul_assoc, lowR_scale rb i (s * m) w hw (Nat.mul_pos hs m1) fun x hx => hm x (List.mem_cons_of_mem _ hx), Nat.div_div_eq_div_mul]
    congr 1
    by_cases h : 0 < (i / (w * s)) % m
    · rw [if_pos h, if_pos h]
      have h1 : 0 < i / w / s := by
        rw [Nat.div_div_eq_div_mul]
        exact Nat.pos_of_ne_zero fun z => by rw [z, Nat.zero_mod] at h; omega
      have h2 : s ≤ i / w := by
        rcases Nat.lt_or_ge (i / w) s with q | q
        · rw [Nat.div_eq_of_lt q] at h1; omega
        · exact q
      show [i - w * s] = [(i / w - s) * w + i % w]
      have h3 := Nat.div_add_mod i w
      have h4 : s * w ≤ (i / w) * w := Nat.mul_le_mul_right w h2
      rw [Nat.sub_mul, Nat.mul_comm w s]
      rw [Nat.mul_comm] at h3
      congr 1
      omega
    · rw [if_neg h, if_neg h]
      rfl
theorem leR_refl : ∀ (rb : List Nat) (a : Nat), leR rb a a = true
  | [], _ => rfl
  | m :: rb, a => by
    show (decide (a % m ≤ a % m) && leR rb (a / m) (a / m)) = true
    rw [leR_refl rb, decide_eq_true (Nat.le_refl _)]
    rfl
theorem leR_cons {m : Nat} {rb : List Nat} {a c : Nat} : leR (m :: rb) a c = true ↔ a % m ≤ c % m ∧ leR rb (a / m) (c / m) = true := by
  show (decide (a % m ≤ c % m) && leR rb (a / m) (c / m)) = true ↔ _
  rw [Bool.and_eq_true, decide_eq_true_iff]
theorem mdN {j w r : Nat} (h : r < w) : (j * w + r) % w = r ∧ (j * w + r) / w = j := by
  rw [Nat.mul_comm, Nat.mul_add_mod, Nat.mod_eq_of_lt h, Nat.mul_add_div (by omega), Nat.div_eq_of_lt h]
  exact ⟨rfl, rfl⟩
theorem lessOne {i m : Nat} (h : 0 < i % m) (hm : 1 ≤ m) : (i - 1) % m = i % m - 1 ∧ (i - 1) / m = i / m := by
  have h1 := Nat.div_add_mod i m
  have h2 := Nat.mod_lt i hm
  rw [Nat.mul_comm] at h1
  have e : i - 1 = (i / m) * m + (i % m - 1) := by omega
  have hr : i % m - 1 < m := by omega
  rw [e]
  exact mdN hr
theorem low_le : ∀ (rb : List Nat) (i j : Nat), (∀ m ∈ rb, 1 ≤ m) → j ∈ lowR rb i 1 → j < i ∧ leR rb j i = true
  | [], _, _, _, h => by cases h
  | m :: rb, i, j, hm, h => by
    have m1 := hm m (List.mem_cons_self ..)
    have hm2 : ∀ x ∈ rb, 1 ≤ x := fun x hx => hm x (List.mem_cons_of_mem _ hx)
    have h := (show j ∈ (if 0 < (i / 1) % m then [i - 1] else []) ++ lowR rb i (1 * m) from h)
    rw [Nat.div_one, Nat.one_mul] at h
    rcases List.mem_append.mp h with q | q
    · by_cases c : 0 < i % m
      · rw [if_pos c] at q
        obtain rfl := List.mem_singleton.mp q
        obtain ⟨e1, e2⟩ := lessOne c m1
        have : 0 < i := Nat.pos_of_ne_zero fun z => by rw [z, Nat.zero_mod] at c; omega
        exact ⟨by omega, leR_cons.mpr ⟨by omega, by rw [e2]; exact leR_refl _ _⟩⟩
      · rw [if_neg c] at q
        cases q
    · have e := lowR_scale rb i 1 m m1 (by decide) hm2
      rw [Nat.mul_one] at e
      rw [e] at q
      obtain ⟨j', hj, rfl⟩ := List.mem_map.mp q
      obtain ⟨h1, h2⟩ := low_le rb (i / m) j' hm2 hj
      have hr := Nat.mod_lt i m1
      obtain ⟨e1, e2⟩ := mdN (j := j') hr
      refine ⟨?_, leR_cons.mpr ⟨by rw [e1]; exact Nat.le_refl _, by rw [e2]; exact h2⟩⟩
      have h3 := Nat.div_add_mod i m
      have h4 : (j' + 1) * m ≤ (i / m) * m := Nat.mul_le_mul_right m h1
      rw [Nat.succ_mul] at h4
      rw [Nat.mul_comm] at h3
      omega
theorem low_cov : ∀ (rb : List Nat) (a b : Nat), (∀ m ∈ rb, 1 ≤ m) → a < prodL rb → b < prodL rb → leR rb a b = true → a ≠ b → ∃ j ∈ lowR rb b 1, leR rb a j = true
  | [], a, b, _, ha, hb, _, hne => by
    have ha : a < 1 := ha
    have hb : b < 1 := hb
    omega
  | m :: rb, a, b, hm, ha, hb, h, hne => by
    have m1 := hm m (List.mem_cons_self ..)
    have hm2 : ∀ x ∈ rb, 1 ≤ x := fun x hx => hm x (List.mem_cons_of_mem _ hx)
    rw [prod_cons] at ha hb
    obtain ⟨h1, h2⟩ := leR_cons.mp h
    have el : lowR (m :: rb) b 1 = (if 0 < b % m then [b - 1] else []) ++ lowR rb b m := by
      show (if 0 < (b / 1) % m then [b - 1] else []) ++ lowR rb b (1 * m) = _
      rw [Nat.div_one, Nat.one_mul]
    rw [el]
    by_cases c : a % m < b % m
    · have c0 : 0 < b % m := by omega
      obtain ⟨e1, e2⟩ := lessOne c0 m1
      refine ⟨b - 1, List.mem_append_left _ (by rw [if_pos c0]; exact List.mem_singleton_self _), leR_cons.mpr ⟨by omega, by rw [e2]; exact h2⟩⟩
    · have em : a % m = b % m := by omega
      have ne : a / m ≠ b / m := fun z => hne (by rw [← Nat.div_add_mod a m, ← Nat.div_add_mod b m, z, em])
      obtain ⟨j', hj, hl⟩ := low_cov rb (a / m) (b / m) hm2 (Nat.div_lt_of_lt_mul ha) (Nat.div_lt_of_lt_mul hb) h2 ne
      have e := lowR_scale rb b 1 m m1 (by decide) hm2
      rw [Nat.mul_one] at e
      obtain ⟨e1, e2⟩ := mdN (j := j') (Nat.mod_lt b m1)
      refine ⟨j' * m + b % m, List.mem_append_right _ (by rw [e]; exact List.mem_map.mpr ⟨j', hj, rfl⟩), leR_cons.mpr ⟨by omega, by rw [e2]; exact hl⟩⟩
/-! ### rows of heights -/
/-- at most m, not less than at the rows one lower -/
def MonoR (rb : List Nat) (m : Nat) (row : List Nat) : Prop := ∀ k, k < row.length → row.getD k 0 ≤ m ∧ ∀ j ∈ lowR rb k 1, row.getD j 0 ≤ row.getD k 0
theorem MonoR.le {rb : List Nat} {m : Nat} {row : List Nat} (h : MonoR rb m row) (hm : ∀ x ∈ rb, 1 ≤ x) (hl : row.length ≤ prodL rb) : ∀ (b a : Nat), b < row.length → a < row.length → leR rb a b = true → row.getD a 0 ≤ row.getD b 0 := by
  intro b
  induction b using Nat.strongRecOn with
  | _ b ih =>
    intro a hb ha hab
    by_cases e : a = b
    · rw [e]; exact Nat.le_refl _
    · obtain ⟨j, hj, h1⟩ := low_cov rb a b hm (by omega) (by omega) hab e
      have h2 := (low_le rb b j hm hj).1
      exact Nat.le_trans (ih j h2 a (by omega) ha h1) ((h b hb).2 j hj)
/-- the greatest height at the rows one lower -/
def loH (rb row : List Nat) : Nat := (lowR rb row.length 1).foldl (fun x j => max x (row.getD j 0)) 0
def growH (rb : List Nat) (m : Nat) (row : List Nat) : List (List Nat) := (List.range (m + 1 - loH rb row)).map fun z => row ++ [loH rb row + z]
def hts (rb : List Nat) (m : Nat) : Nat → List (List Nat)
  | 0 => [[]]
  | i + 1 => (hts rb m i).flatMap (growH rb m)
/-! ### the lot of a row of heights -/
def topsN (m : Nat) (row : List Nat) : List Nat := (List.range row.length).flatMap fun k => (List.range (row.getD k 0)).map fun z => k * m + (m - row.getD k 0) + z
/-- the least last entry in the lot -/
def leastY (B m k : Nat) : Nat := ((List.range m).find? fun y => B.testBit (k * m + y)).getD m
def rowOf (B m R : Nat) : List Nat := (List.range R).map fun k => m - leastY B m k
end Pl

set_option Elab.async false
set_option linter.all false
set_option maxRecDepth 100000
set_option maxHeartbeats 4000000
/-! Qk: a tuple that ends with an own list. -/
namespace Pl
open PySem L2 Gx PySem.Spec PyProof.Rows
theorem flat_lenB {α β : Type} {f : α → List β} {c : Nat} : ∀ {l : List α}, (∀ a ∈ l, (f a).length ≤ c) → (l.flatMap f).length ≤ l.length * c
  | [], _ => Nat.zero_le _
  | a :: l, h => by
    have := h a (List.mem_cons_self ..)
    have := flat_lenB (l := l) fun b hb => h b (List.mem_cons_of_mem _ hb)
    rw [List.flatMap_cons, List.length_append, List.length_cons, Nat.succ_mul]
    omega
/-- a tuple: pre, then the list es at b, which is no one else's -/
def tnB (b : Addr) (pre es : List E) : Blob where
  as := [b]
  P := fun H W v => ∃ q vs ws, v = .ref q ∧ W q = some (.tup (vs ++ [V.ref b])) ∧ (vs ++ [V.ref b]).length ≤ sizeLine ∧ EvL W vs pre ∧ H b = some (.lst ws) ∧ ws.length ≤ sizeLine ∧ EvL W ws es
  e := .tup (pre ++ [.lst es])
  mono := fun H H' W W' v ⟨q, vs, ws, e, h1, h2, h3, h4, h5, h6⟩ sW sH => ⟨q, vs, ws, e, sW _ _ h1, h2, h3.mono sW, sH b (List.mem_singleton_self _) _ h4, h5, h6.mono sW⟩
  live := fun H W v ⟨q, vs, ws, e, h1, h2, h3, h4, h5, h6⟩ a ha => by
    rw [List.mem_singleton.mp ha]
    exact ⟨_, h4, .inl ⟨_, rfl⟩⟩
  frz := fun H W v ⟨q, vs, ws, e, h1, h2, h3, h4, h5, h6⟩ hw => by
    subst e
    exact ⟨q, _, rfl, h1, h2, h3.append (EvL.one ⟨b, ws, rfl, hw b (List.mem_singleton_self _) _ h4, h5, h6⟩)⟩
abbrev M.tn (b : Addr) (pre es : List E) : M := .bx (tnB b pre es)
section
variable {X : XC} {ρ : Env} {K : PySem.W.Frag} {n : Nat} {b : Addr} {pre es : List E} {i : Nat} {te tj ta tb : TE}
end
end Pl

set_option Elab.async false
set_option linter.all false
set_option maxRecDepth 100000
set_option maxHeartbeats 4000000
/-! Qm: == and != by an own class's method. -/
namespace Gx
open PySem PySem.Spec PyProof.Rows L2
/-- what stands on the right is of no class that would be asked first -/
def laterIn (K : PySem.W.Frag) (C : Addr) (t : Value) : Prop := PySem.W.notFirst K C t = true
theorem own_cmp {prog : Program} {w : World} {A : Around} {EE : Value → Shared → Prop} {s : Shared} {K : PySem.W.Frag} {x f C : Addr} {ox : Obj} {od : Option Obj} {op : CmpOp} {b t : Value} {Q : Value → Shared → Prop} (room : A.units < cLine) (In : K.In s.heap) (I : PySem.W.InstAt s.heap x ox C od)
    (hb : PySem.W.Looks (model prog w) s.heap (typeOf b) t) (late : laterIn K C t) (hs : PySem.W.findIn K (.ref C) (cmpInfo op).2.1 = some (some (.ref f))) (hf : PySem.W.isFn K (.ref f) = true)
    (ask : wpAny (model prog w) A (call (.ref f) [.ref x, b]) (fun v s' => v ≠ .notImplemented ∧ Q v s') EE s) : wpAny (model prog w) A (richCompare op (.ref x) b) Q EE s := by
  have given : wpAny (model prog w) A (tryCompare (.ref x) (cmpInfo op).2.1 b) (fun r s' => ∃ v, r = some v ∧ Q v s') EE s := by
    unfold tryCompare
    refine wpAny_bind (PySem.W.ifBound_K In I hs hf (wpAny_mono ask (fun v s' z => ?_) fun _ _ z => z))
    obtain ⟨z1, z2⟩ := z
    cases v <;> first | exact absurd rfl z1 | exact wpAny_pure ⟨_, rfl, z2⟩
  unfold richCompare
  simp only [oneThing_ref]
  refine wpAny_holding (wpAny_bind (wpAny_cRoomFor room (wpAny_bind (I.type.here (wpAny_bind (hb.here ?_))))))
  have tail : ∀ {g : Option Value → Sem Value}, (∀ v s', Q v s' → wpAny (model prog w) A (g (some v)) Q EE s') → wpAny (model prog w) A (tryCompare (.ref x) (cmpInfo op).2.1 b >>= g) Q EE s := fun hg => wpAny_bind (wpAny_mono given (fun r s' ⟨v, e, q⟩ => by rw [e]; exact hg v s' q) fun _ _ z => z)
  split
  · rename_i q
    have e : PySem.W.subIn K t (.ref C) = some false := by
      rcases Bool.or_eq_true_iff.mp late with z | z
      · rw [beq_iff_eq.mp z] at q; simp at q
      · exact beq_iff_eq.mp z
    refine wpAny_bind ((PySem.W.looks_subIn In e).here ?_)
    simp only [Bool.false_eq_true, if_false]
    exact tail fun v s' q => wpAny_pure q
  · refine wpAny_bind (wpAny_pure ?_)
    simp only [Bool.false_eq_true, if_false]
    exact tail fun v s' q => wpAny_pure q
/-- the class of a value, read off the heap -/
def TyL (H : Hp) (x : V) (t : Value) : Prop := (x = .non ∧ t = .type "NoneType") ∨ (∃ b, x = .bl b ∧ t = .type "bool") ∨ (∃ i, x = .int i ∧ t = .type "int") ∨ (∃ y, x = .str y ∧ t = .type "str") ∨
  (∃ a xs, x = .ref a ∧ H a = some (.lst xs) ∧ t = .type "list") ∨ (∃ a xs, x = .ref a ∧ H a = some (.tup xs) ∧ t = .type "tuple") ∨ (∃ a ks, x = .ref a ∧ H a = some (.dK ks) ∧ t = .type "dict") ∨ ∃ a C dx fs, x = .ref a ∧ H a = some (.ins C dx fs) ∧ t = .ref C
theorem tyL_looks {X : Cx} {pins : List (Addr × Obj)} {σ : L2.St} {H : Hp} {s : Shared} {x : V} {u t : Value} (I : Inv X pins σ H s) (rx : RelV x u) (h : TyL H x t) : PySem.W.Looks (model X.prog X.w) s.heap (typeOf u) t := by
  rcases h with ⟨rfl, rfl⟩ | ⟨b, rfl, rfl⟩ | ⟨i, rfl, rfl⟩ | ⟨y, rfl, rfl⟩ | ⟨a, xs, rfl, e, rfl⟩ | ⟨a, xs, rfl, e, rfl⟩ | ⟨a, xs, rfl, e, rfl⟩ | ⟨a, C, dx, fs, rfl, e, rfl⟩
  · obtain rfl : u = Value.none := rx
    exact PySem.W.Looks.of_pure rfl
  · obtain rfl : u = Value.bool b := rx
    exact PySem.W.Looks.of_pure rfl
  · obtain ⟨_, rfl⟩ := (show ∃ t, u = Value.int i t from rx)
    exact PySem.W.Looks.of_pure rfl
  · obtain ⟨_, rfl⟩ := (show ∃ t, u = Value.str y t from rx)
    exact PySem.W.Looks.of_pure rfl
  · obtain rfl : u = Value.ref a := rx
    obtain ⟨_, _, n, _, h1⟩ := (show ObjOk X.prog X.w H s.heap a (.lst xs) from I.hok a _ e)
    exact fun A Q E s k q => wpAny_typeOf_ref (k _ _ h1) q
  · obtain rfl : u = Value.ref a := rx
    obtain ⟨_, _, _, o, h1, h2, _⟩ := (show ObjOk X.prog X.w H s.heap a (.tup xs) from I.hok a _ e)
    exact fun A Q E s k q => wpAny_typeOf_ref (k _ _ h1) (by rw [h2]; exact q)
  · obtain rfl : u = Value.ref a := rx
    obtain ⟨_, _, vs, _, o, es, ep, h1, h2, _⟩ := (show ObjOk X.prog X.w H s.heap a (.dK xs) from I.hok a _ e)
    exact fun A Q E s k q => wpAny_typeOf_ref (k _ _ h1) (by rw [h2.1]; exact q)
  · obtain rfl : u = Value.ref a := rx
    obtain ⟨_, O, _⟩ := ins_get I.hok e
    obtain ⟨od, J, _⟩ := O.look
    exact J.type
/-- a == b, a != b where the left one's class says what they are -/
def rOwnC (C : Addr) (sp : Sp) (E1 : XK) (K : PySem.W.Frag) : R2 := fun x y H Q => ∃ (a dx : Addr) (fs : List (Str × V)) (t : Value), x = .ref a ∧ H a = some (.ins C dx fs) ∧ TyL H y t ∧ laterIn K C t ∧ sp [x, y] H Q E1
section
variable {X : Cx} {CX : CXT} {k : Nat} {f C : Addr} {fd : FuncData} {ps : List Str} {sp : Sp} {E1 : XK} {m : Str}
theorem op_own {op : CmpOp} (hop : op = .Eq ∨ op = .NotEq) (room : X.A.units + 64 < cLine) (hm : Meth X.K C m f) (hn : (cmpInfo op).2.1 = m) (F : FnOk X.prog X.w X.K X.mg X.base CX k f fd ps sp) (hro : Room k X.A) (hb : Binds X.K fd ps []) (px : Passes CX X E1) (K : PySem.W.Frag) (hK : X.K = K := by rfl) :
    OpR X (compareOp op) (rOwnC C sp E1 K) := by
  subst hn hK
  intro pins s σ H x y v u Q I rx ry h
  obtain ⟨a, dx, fs, t, rfl, ea, ty, late, q⟩ := h
  obtain rfl : v = Value.ref a := rx
  obtain ⟨mA, O, _, _, _, _⟩ := ins_get I.hok ea
  obtain ⟨od, J, _⟩ := O.look
  have e : compareOp op (.ref a) u = richCompare op (.ref a) u := by rcases hop with rfl | rfl <;> rfl
  rw [e]
  refine own_cmp (by omega) I.kIn J (tyL_looks I ry ty) late hm.at_ hm.fn (wpAny_mono (run_fnS (us := [.ref a, u]) (vs := [.ref a, y]) F hro hb (E := fun _ => E1) (fun pins H s e s' => px pins σ H s e s') I (.cons rfl (.cons ry .nil)) q) (fun v s' z => ⟨?_, z⟩) fun _ _ z => z)
  obtain ⟨y, _, _, hy, _⟩ := z
  exact rel_ni hy
end
end Gx
namespace Pl
open PySem L2 Gx PySem.Spec PyProof.Rows
/-- the class of a value seen whole -/
def tyLE : E → Option Value
  | .non => some (.type "NoneType")
  | .bl _ => some (.type "bool")
  | .int _ => some (.type "int")
  | .str _ => some (.type "str")
  | .lst _ => some (.type "list")
  | .tup _ => some (.type "tuple")
  | .dic _ => some (.type "dict")
  | .ob C _ => some (.ref C)
  | _ => none
theorem tyLE_ok {H : Hp} {v : V} {t : Value} : ∀ {e : E}, Ev H v e → tyLE e = some t → TyL H v t
  | .non, h, rfl => .inl ⟨h, rfl⟩
  | .bl b, h, rfl => .inr (.inl ⟨b, h, rfl⟩)
  | .int i, h, rfl => .inr (.inr (.inl ⟨i, h, rfl⟩))
  | .str y, h, rfl => .inr (.inr (.inr (.inl ⟨y, h, rfl⟩)))
  | .lst _, ⟨p, vs, e, h, _⟩, rfl => .inr (.inr (.inr (.inr (.inl ⟨p, vs, e, h, rfl⟩))))
  | .tup _, ⟨p, vs, e, h, _⟩, rfl => .inr (.inr (.inr (.inr (.inr (.inl ⟨p, vs, e, h, rfl⟩)))))
  | .dic _, ⟨p, vs, e, h, _⟩, rfl => .inr (.inr (.inr (.inr (.inr (.inr (.inl ⟨p, vs, e, h, rfl⟩))))))
  | .ob C _, ⟨x, dx, fv, e, h, _⟩, rfl => .inr (.inr (.inr (.inr (.inr (.inr (.inr ⟨x, C, dx, fv, e, h, rfl⟩))))))
section
variable {K : PySem.W.Frag} {C : Addr} {ρ : Env} {Q : M → Prop} {g : List M → Option Br} {E1 : XK}
theorem v_own {fs : List (Str × E)} {e : E} {t : Value} (ht : tyLE e = some t) (late : laterIn K C t) (k : ∃ b, g [.sh (obE C fs), .sh e] = some b ∧ b.pre ∧ (∀ cls xd, ¬ b.xp cls xd) ∧ ∀ m, b.post m → Q m) : p2 (rOwnC C (spC (ctF g)) E1 K) (.sh (obE C fs)) (.sh e) Q := fun B ρ σ H x y R r f => by
  obtain ⟨b, h1, h2, h3, h4⟩ := k
  obtain ⟨a, dx, fv, rfl, ea, _⟩ := obE_at r
  refine ⟨a, dx, fv, t, rfl, ea, tyLE_ok r.tail.valH ht, late, ?_⟩
  exact spC_use (ms := [.sh (obE C fs), .sh e]) (vs := [.ref a, y]) rfl r ⟨b, h1, h2⟩ (fun v m H' r' ⟨b', h5, q⟩ => f v m H' r' (h4 m (by rw [h1] at h5; cases h5; exact q))) fun cls d xd H' _ _ ⟨b', h5, q⟩ => by
    rw [h1] at h5; cases h5; exact (h3 cls xd q).elim
theorem v_eqN {x y : List Nat} (k : Q (.sh (.bl (decide (x = y))))) : p2 (rEqG K) (.sh (.lst (x.map natE))) (.sh (.lst (y.map natE))) Q := fun B ρ σ H u v R r f => by
  obtain ⟨p, vs, rfl, g1, gz, g2⟩ := r.val
  obtain ⟨p2, ws, rfl, h1, hz, h2⟩ := r.tail.val
  refine .inr ⟨.list (dN x), .list (dN y), .lst (SqL.of (wos_some g1).2) (dpN g2), .lst (SqL.of (wos_some h1).2) (dpN h2), dN_shaped x, dN_shaped y, ?_⟩
  rw [show PyData.eqv (.list (dN x)) (.list (dN y)) = decide (x = y) from dN_eqv x y]
  exact f _ _ H (r.tail.tail.push (e := .bl (decide (x = y))) rfl) k
/-- one's own class is not asked first on the right -/
theorem late_self : laterIn K C (.ref C) := by
  unfold laterIn PySem.W.notFirst
  rw [beq_self_eq_true]
  rfl
end
abbrev rowE (ns : List Nat) (a : Nat) : E := .tup ((digs ns a).map natE)
abbrev rowsE (ns : List Nat) : List E := (List.range (prodL ns)).map (rowE ns)
/-- the first entry of a row that is wrong -/
def idxF (ns : List Nat) (xs : List E) : Option Nat := (List.range ns.length).find? fun c => !inRE 0 ((ns.getD c 0 : Nat) - 1 : Int) (xs.getD c .non)
def rFault (ns : List Nat) (r : E) : Option (Option Nat) := match seqOf r with
  | none => some none
  | some xs => if xs.length = ns.length then (match idxF ns xs with
    | none => none
    | some c => some (some c)) else some none
end Pl

set_option Elab.async false
set_option linter.all false
set_option maxRecDepth 100000
set_option maxHeartbeats 4000000
/-! Qn: rows of a box and their numbers. -/
namespace Pl
open PySem PySem.Spec PyProof.Rows L2 Gx
/-- a row of the box -/
def rowOk (ws r : List Nat) : Prop := r.length = ws.length ∧ ∀ (i n x : Nat), ws[i]? = some n → r[i]? = some x → x < n
end Pl

set_option Elab.async false
set_option linter.all false
set_option maxRecDepth 100000
set_option maxHeartbeats 4000000
/-! Qo: boxes joined. -/
namespace Pl
open PySem PySem.Spec PyProof.Rows L2 Gx
end Pl

set_option Elab.async false
set_option linter.all false
set_option maxRecDepth 100000
set_option maxHeartbeats 4000000
/-! Qp: a dict under a loop over its pairs, read in the body. -/
namespace Pl
open PySem L2 Gx PySem.Spec PyProof.Rows
def keyE : L2.Key → E
  | .inl i => .int i
  | .inr s => .str s
theorem keyE_of {H : Hp} {v : V} {k : L2.Key} (h : Ev H v (keyE k)) : v = kV k := by cases k <;> exact h
def keyAt (ps : List (L2.Key × E)) (k : L2.Key) : Option E := (ps.find? fun p => decide (p.1 = k)).map (·.2)
theorem EvK.val {H : Hp} (k : L2.Key) : ∀ {ps : List (L2.Key × E)} {ks : List (L2.Key × V)}, EvK H ks ps → (valV ks k = none ∧ keyAt ps k = none) ∨ ∃ v e, valV ks k = some v ∧ keyAt ps k = some e ∧ Ev H v e
  | [], ks, q => by rw [show ks = [] from q]; exact .inl ⟨rfl, rfl⟩
  | (k', e) :: ps, ks, ⟨v, r, e1, q, t⟩ => by
    rw [e1]
    by_cases h : k' = k
    · refine .inr ⟨v, e, valV_pos h, ?_, q⟩
      unfold keyAt
      rw [List.find?_cons_of_pos (by simpa using h)]
      rfl
    · rw [valV_neg (p := (k', v)) h]
      have e2 : keyAt ((k', e) :: ps) k = keyAt ps k := by
        unfold keyAt
        rw [List.find?_cons_of_neg (by simpa using h)]
      rw [e2]
      exact EvK.val k t
/-- the dict at d while a loop goes over it -/
def lkB (od : PySem.Obj) (kvs : List (L2.Key × V)) (ps : List (L2.Key × E)) (d : Addr) : Blob where
  as := [d]
  P := fun H W v => v = .ref d ∧ H d = some (.frz od (.dK kvs)) ∧ kvs.length ≤ sizeLine ∧ EvK W kvs ps
  e := .pr fun _ _ => True
  mono := fun H H' W W' v ⟨e, h1, h2, h3⟩ sW sH => ⟨e, sH d (List.mem_cons_self ..) _ h1, h2, h3.mono sW⟩
  live := fun H W v ⟨e, h1, _⟩ a ha => by
    rw [List.mem_singleton.mp ha]
    exact ⟨_, h1, .inr (.inr (.inr (.inr ⟨_, _, rfl⟩)))⟩
  frz := fun H W v _ _ => ⟨W, fun _ _ e => e, trivial⟩
/-- it is such a dict, of these pairs -/
def IsLk (ps : List (L2.Key × E)) (m : M) : Prop := ∃ od kvs d, m = .bx (lkB od kvs ps d)
section
variable {X : XC} {ρ : Env} {n : Nat} {ps : List (L2.Key × E)} {m0 : M}
end
end Pl

set_option Elab.async false
set_option linter.all false
set_option maxRecDepth 100000
set_option maxHeartbeats 4000000
/-! Qq: an order's closed lots, ordered by what holds what (up). -/
namespace Pl
open PySem L2 Gx PySem.Spec PyProof.Rows
/-- the closed lots' bits in the order of the lots -/
def clN (rs : List Nat) : List Nat := (lotsN rs).map bitsN
/-- the pairs of the i-th lot: itself, and itself without one thing -/
def upRow (C : List Nat) (i : Nat) : List (Int × Int) := (((bitsL (C.getD i 0)).map fun t => C.getD i 0 ^^^ 2 ^ t).filter fun b => decide (b ∈ C)).map fun b => ((i : Int), (C.idxOf b : Int))
def upP (C : List Nat) : List (Int × Int) := (List.range C.length).flatMap (upRow C)
/-- what holds what -/
def subB (b x : Nat) : Prop := ∀ t, b.testBit t = true → x.testBit t = true
/-- the lots of an order, the greater ones before what they hold -/
def UpT (rs qs : List Nat) : Prop := OrdT qs ∧ qs.length = (clN rs).length ∧ ∀ a c : Nat, a < (clN rs).length → c < (clN rs).length → (bt qs a c = true ↔ subB ((clN rs).getD c 0) ((clN rs).getD a 0))
end Pl

set_option Elab.async false
set_option linter.all false
set_option maxRecDepth 100000
set_option maxHeartbeats 4000000
/-! Qr: a module's tuple of whole numbers. -/
namespace Pl
open PySem L2 Gx PySem.Spec PyProof.Rows
def cstP (K : PySem.W.Frag) (vs : List Int) : Hp → V → Prop := fun _ v => ∃ c, v = .ref c ∧ ∀ H, SqT K H c (vs.map V.int)
def ConT (K : PySem.W.Frag) (mg : Str → Option Value) (x : Str) (vs : List Int) : Prop := ∃ c, mg x = some (Value.ref c) ∧ ∀ H, SqT K H c (vs.map V.int)
def cTup (x : Str) (vs : List Int) : PySem.W.Frag → Bool := fun K => cFa (.glo x) K && He.tupB K x (vs.map He.Dv.int)
section
variable {X : XC} {ρ : Env} {K : PySem.W.Frag} {vs : List Int}
end
end Pl

set_option Elab.async false
set_option linter.all false
set_option maxRecDepth 100000
set_option maxHeartbeats 4000000
/-! Qs: whether a number is among a tuple's or a list's numbers. -/
namespace Pl
open PySem L2 Gx PySem.Spec PyProof.Rows
theorem nats_vals {H : Hp} : ∀ {ts : List Nat} {vs : List V}, EvL H vs (ts.map natE) → vs = ts.map fun n : Nat => V.int (n : Int)
  | [], vs, h => h
  | t :: ts, vs, ⟨v, r, e, h1, h2⟩ => by
    rw [e, nats_vals h2, show v = V.int (t : Int) from h1]
    rfl
theorem inV_nats (x : Nat) : ∀ ts : List Nat, inV (V.int (x : Int)) (ts.map fun n : Nat => V.int (n : Int)) = decide (x ∈ ts)
  | [] => rfl
  | t :: ts => by
    have ih := inV_nats x ts
    unfold inV at ih ⊢
    rw [List.map_cons, List.any_cons, ih]
    have e : eqV (V.int (t : Int)) (V.int (x : Int)) = decide (t = x) := by
      show decide ((t : Int) = (x : Int)) = decide (t = x)
      exact decide_eq_decide.mpr Int.ofNat_inj
    rw [e]
    by_cases h : t = x
    · subst h
      simp
    · rw [decide_eq_false h, Bool.false_or]
      exact decide_eq_decide.mpr ⟨fun g => List.mem_cons_of_mem _ g, fun g => (List.mem_cons.mp g).elim (fun z => absurd z.symm h) id⟩
theorem flat_nats (ts : List Nat) : (ts.map fun n : Nat => V.int (n : Int)).all flatV = true := by
  rw [List.all_map]
  exact List.all_eq_true.mpr fun _ _ => rfl
section
variable {K : PySem.W.Frag} {neg : Bool} {Q : M → Prop} {x : Nat} {ts : List Nat}
theorem v_inTN (k : Q (.sh (.bl (if neg then !decide (x ∈ ts) else decide (x ∈ ts))))) : p2 (rIn K neg) (.sh (.int (x : Int))) (.sh (.tup (ts.map natE))) Q := fun B ρ σ H u v R r f => by
  obtain rfl := r.int
  obtain ⟨p, vs, rfl, g1, gz, g2⟩ := r.tail.val
  have e := nats_vals g2
  subst e
  refine ⟨p, _, rfl, .inr (SqT.of (wos_some g1).2), rfl, flat_nats ts, ?_⟩
  rw [inV_nats]
  exact f _ _ H (r.tail.tail.push (e := .bl _) rfl) k
end
end Pl

set_option Elab.async false
set_option linter.all false
set_option maxRecDepth 100000
set_option maxHeartbeats 4000000
/-! Qt: list.insert; the rows of a box are determined. -/
namespace Pl
open PySem L2 Gx PySem.Spec PyProof.Rows
abbrev rInsert : V → List V → Hp → VK → Prop := fun x vs H Q => ∃ (l : Addr) (xs : List V) (i : Int) (y : V), x = .ref l ∧ vs = [.int i, y] ∧ H l = some (.lst xs) ∧ xs.length < sizeLine ∧ 0 ≤ i ∧ i < 2 ^ 63 ∧ Q .non (upd H l (.lst (xs.take i.toNat ++ [y] ++ xs.drop i.toNat)))
section
variable {X : XC} {ρ : Env} {K : PySem.W.Frag} {n : Nat} {ta tb : TE} {es : List E} {QE : M → Env → Prop}
end
theorem bits_off {rs : List Nat} (O : OrdT rs) {a i : Nat} (h : rs.length ≤ i) : (rs.getD a 0).testBit i = false := by
  cases e : (rs.getD a 0).testBit i with
  | false => rfl
  | true =>
    have := (O.rng a i e).2
    omega
/-- the rows of a box, told by its bounds -/
def boxRs (ns : List Nat) : List Nat := (List.range (prodL ns)).map fun a => ((List.range (prodL ns)).filter fun c => leR ns.reverse a c).foldl (fun m c => m ||| 2 ^ c) 0
end Pl

set_option Elab.async false
set_option linter.all false
set_option maxRecDepth 100000
set_option maxHeartbeats 4000000
/-! Qu: closed lots told by a table, listed size by size. -/
namespace Pl
open PySem L2 Gx PySem.Spec PyProof.Rows
abbrev lotT (x : List Nat) : E := .tup (x.map natE)
def lexLe (x y : List Nat) : Bool := decide (x ≤ y)
/-- the first k sizes, from N down -/
def bySize (F : List (List Nat)) (N k : Nat) : List (List Nat) := (List.range k).flatMap fun k => (F.filter fun x => decide (x.length = N - k)).mergeSort lexLe
/-! ### the lots grow thing by thing -/
def dueL (rs : List Nat) (a : Nat) : List Nat := (bitsL (rs.getD a 0)).drop 1
/-- the lots after k steps, as lists of things -/
def lotsK (rs : List Nat) (k : Nat) : List (List Nat) := (allCk rs k).map bitsL
/-! ### sorted of alike data, or of one thing at most -/
def rSortD1 (K : PySem.W.Frag) : List V → Hp → VK → Prop := fun vs H Q => rSortD K vs H Q ∨ ∃ (a : Addr) (xs : List V), vs = [.ref a] ∧ SqL K H a xs ∧ xs.length ≤ 1 ∧ ∀ p, Nw H p → Q (.ref p) (upd H p (.lst xs))
/-- what may be raised, forgotten -/
theorem p_absX {W : WX} {Qx : Env → Value → XD → Prop} {pin : Option (Addr × Str × E)} {t : TS} {ρ : Env} {P : Post} (k : ∀ Qx, pS ⟨W, Qx, pin⟩ t ρ P) : pS ⟨W, Qx, pin⟩ t ρ P := k Qx
end Pl

set_option Elab.async false
set_option linter.all false
set_option maxRecDepth 100000
set_option maxHeartbeats 4000000
/-! Qv: an object's own fields read while it is made; a dict of pairs measured and sorted. -/
namespace Pl
open PySem L2 Gx PySem.Spec PyProof.Rows
section
variable {Q : M → Prop} {ps : List (List L2.Key × E)}
theorem v_lenDt (k : Q (.sh (.int (ps.length : Int)))) : pL rLenT [.sh (.dit ps)] Q := fun B ρ σ H vs R hl r f => by
  match vs, hl, r with
  | [v], _, r =>
    obtain ⟨p, kvs, rfl, g1, gz, g2⟩ := r.val
    refine ⟨p, kvs, rfl, (wos_some g1).2, ?_⟩
    rw [g2.length]
    exact f _ _ H (r.tail.push (e := .int (ps.length : Int)) rfl) k
end
section
variable {X : XC} {ρ : Env} {Q : M → Env → Prop} {K : PySem.W.Frag} {fn : Str} {n : Nat} {q C dx : Addr} {fs : List (Str × E)} {e : E}
end
theorem iso_fun {K : PySem.W.Frag} {C : Addr} {e : E} {b c : Bool} (h : isOf K C e b) (q : isOf K C e c) : b = c := by
  obtain ⟨t, g1, g2⟩ := h
  obtain ⟨u, h1, h2⟩ := q
  have e1 : t = u := by
    rcases g1 with ⟨n, g, rfl⟩ | ⟨_, _, rfl, _, rfl⟩ | ⟨rfl, rfl⟩
    · rcases h1 with ⟨m, k, rfl⟩ | ⟨_, _, rfl, _, _⟩ | ⟨rfl, _⟩
      · rw [g] at k
        cases k
        rfl
      · cases g
      · cases g
    · rcases h1 with ⟨m, k, rfl⟩ | ⟨_, _, k, _, rfl⟩ | ⟨k, _⟩
      · cases k
      · cases k
        rfl
      · cases k
    · rcases h1 with ⟨m, k, rfl⟩ | ⟨_, _, k, _, _⟩ | ⟨_, rfl⟩
      · cases k
      · cases k
      · rfl
  subst e1
  rw [g2] at h2
  exact Option.some.inj h2
theorem iso_other {K : PySem.W.Frag} {C D : Addr} {fs : List (Str × E)} (h : InsK K D) (k : PySem.W.kitOne K (.ref D) (.ref C) = some false) : isOf K C (.ob D fs) false := ⟨_, .inr (.inl ⟨_, _, rfl, h, rfl⟩), k⟩
end Pl

set_option Elab.async false
set_option linter.all false
set_option maxRecDepth 100000
set_option maxHeartbeats 4000000
/-! Qw: sizes of closed lots; how many lots the lots of a small order have. -/
namespace Pl
open PySem L2 Gx PySem.Spec PyProof.Rows
/-- how many things -/
abbrev cntB (x : Nat) : Nat := (bitsL x).length
theorem tab_congr {n : Nat} {f g : Nat → Nat → Bool} (h : ∀ a b, a < n → b < n → f a b = g a b) : tab n f = tab n g := by
  refine List.map_congr_left fun a ha => List.map_congr_left fun b hb => ?_
  rw [h a b (List.mem_range.mp ha) (List.mem_range.mp hb)]
end Pl

set_option Elab.async false
set_option linter.all false
set_option maxRecDepth 100000
set_option maxHeartbeats 4000000
/-! Qx: which lots of an order cover which. -/
namespace Pl
open PySem L2 Gx PySem.Spec PyProof.Rows
theorem flatMap_congr2 {α β : Type} {f g : α → List β} : ∀ {l : List α}, (∀ x ∈ l, f x = g x) → l.flatMap f = l.flatMap g
  | [], _ => rfl
  | x :: l, h => by
    rw [List.flatMap_cons, List.flatMap_cons, h x (List.mem_cons_self ..), flatMap_congr2 fun y hy => h y (List.mem_cons_of_mem _ hy)]
/-! ### a call by keywords alone where what is raised is caught -/
section
variable {X : Cx} {CX : CXT} {k n : Nat} {f : Addr} {fd : FuncData} {ps ks : List Str} {sp : Sp} {E : L2.St → XK} {x : Str} {p pos : Pos} {kws : List Keyword} {tk : TA} {g : List Value → List Value → List Value} {gV : List V → List V → List V}
def tCallN0S (m : Nat) (sp : Sp) (gV : List V → List V → List V) (E : L2.St → XK) (tk : TA) : TE := fun σ H Q => tk σ H fun zs H2 => zs.length = m ∧ sp (gV [] zs) H2 Q (E σ)
end
end Pl

set_option Elab.async false
set_option linter.all false
set_option maxRecDepth 100000
set_option maxHeartbeats 4000000
/-! Qy: orders side by side, stacked, turned. -/
namespace Pl
open PySem L2 Gx PySem.Spec PyProof.Rows
def besP (A B : List (Int × Int)) (n : Nat) : List (Int × Int) := A ++ B.map fun q => (q.1 + (n : Int), q.2 + (n : Int))
def btwP (n m : Nat) : List (Int × Int) := (List.range n).flatMap fun a : Nat => (List.range m).map fun b : Nat => ((a : Int), (n : Int) + (b : Int))
def negP (A : List (Int × Int)) (n : Nat) : List (Int × Int) := A.map fun p => ((n : Int) - 1 - p.2, (n : Int) - 1 - p.1)
section
variable {A B : List (Int × Int)} {n m : Nat}
end
/-- side by side -/
def BesT (rs qs ts : List Nat) : Prop := OrdT ts ∧ ts.length = rs.length + qs.length ∧ ∀ x y : Nat, x < ts.length → (bt ts x y = true ↔ (x < rs.length ∧ bt rs x y = true) ∨ (rs.length ≤ x ∧ rs.length ≤ y ∧ bt qs (x - rs.length) (y - rs.length) = true))
/-- stacked -/
def AddT (rs qs ts : List Nat) : Prop := OrdT ts ∧ ts.length = rs.length + qs.length ∧ ∀ x y : Nat, x < ts.length → (bt ts x y = true ↔ ((x < rs.length ∧ bt rs x y = true) ∨ (rs.length ≤ x ∧ rs.length ≤ y ∧ bt qs (x - rs.length) (y - rs.length) = true)) ∨ (x < rs.length ∧ rs.length ≤ y ∧ y < ts.length))
/-- turned -/
def NegT (rs ts : List Nat) : Prop := OrdT ts ∧ ts.length = rs.length ∧ ∀ x y : Nat, x < rs.length → y < rs.length → bt ts x y = bt rs (rs.length - 1 - y) (rs.length - 1 - x)
end Pl

set_option Elab.async false
set_option linter.all false
set_option maxRecDepth 100000
set_option maxHeartbeats 4000000
/-! Qz: what products, stacks and turns of orders have in common. -/
namespace Pl
open PySem L2 Gx PySem.Spec PyProof.Rows
theorem ord_extI {ts us : List Nat} (O1 : OrdT ts) (O2 : OrdT us) (hl : ts.length = us.length) (h : ∀ x y : Nat, x < ts.length → y < ts.length → (bt ts x y = true ↔ bt us x y = true)) : ts = us := by
  refine List.ext_getElem hl fun a ha hb => ?_
  have e : ts.getD a 0 = us.getD a 0 := Nat.eq_of_testBit_eq fun i => by
    by_cases hi : i < ts.length
    · rw [Bool.eq_iff_iff]
      exact h a i ha hi
    · rw [bits_off O1 (by omega), bits_off O2 (by omega)]
  rw [List.getD_eq_getElem?_getD, List.getElem?_eq_getElem ha, List.getD_eq_getElem?_getD, List.getElem?_eq_getElem hb] at e
  exact e
section
variable {p q r a b c d e f g : List Nat}
end
def turnF (n : Nat) (f : Nat → Nat → Bool) : Nat → Nat → Bool := fun a b => f (n - 1 - b) (n - 1 - a)
def joinF (n : Nat) (f g : Nat → Nat → Bool) (over : Bool) : Nat → Nat → Bool := fun x y => if x < n then (if y < n then f x y else over) else (if y < n then false else g (x - n) (y - n))
def prodF (m : Nat) (f g : Nat → Nat → Bool) : Nat → Nat → Bool := fun x y => f (x / m) (y / m) && g (x % m) (y % m)
/-! ### a method called by keywords alone where what is raised is caught -/
section
variable {X : Cx} {CX : CXT} {k : Nat} {f C : Addr} {fd : FuncData} {ps ks : List Str} {sp : Sp} {E : L2.St → XK} {m : Str} {o : Expr} {ta : TE} {apos pos : Pos} {kws : List Keyword} {tk : TA} {g : List Value → List Value → List Value} {gV : List V → List V → List V}
def tMethN0S (C : Addr) (m : Str) (n : Nat) (sp : Sp) (gV : List V → List V → List V) (E : L2.St → XK) (ta : TE) (tk : TA) : TE := fun σ H Q => ta σ H fun x H1 => ∃ a dx fs, x = V.ref a ∧ H1 a = some (.ins C dx fs) ∧ fs.lookup m = none ∧ tk σ H1 fun zs H2 => zs.length = n ∧ sp (gV [.ref a] zs) H2 Q (E σ)
end
end Pl

set_option Elab.async false
set_option linter.all false
set_option maxRecDepth 100000
set_option maxHeartbeats 4000000
/-! Ra: the lots of orders joined; a method called where what is raised is caught. -/
namespace Pl
open PySem L2 Gx PySem.Spec PyProof.Rows
/-! ### lots as ascending lists -/
def LotP (rs x : List Nat) : Prop := x.Pairwise (· < ·) ∧ ∀ a ∈ x, a < rs.length ∧ ∀ c, bt rs a c = true → c ∈ x
/-- the lower and the upper part of a lot -/
def loL (n : Nat) (x : List Nat) : List Nat := x.filter fun a => decide (a < n)
def hiL (n : Nat) (x : List Nat) : List Nat := (x.filter fun a => decide (n ≤ a)).map (· - n)
/-! ### side by side -/
section
variable {rs qs ts x : List Nat}
def besL (n : Nat) (F G : List (List Nat)) : List (List Nat) := F.flatMap fun y => G.map fun z => y ++ z.map (n + ·)
/-! ### stacked -/
def addL (n m : Nat) (F G : List (List Nat)) : List (List Nat) := (G.map fun z => z.map (n + ·)) ++ (F.filter fun y => decide (0 < y.length)).map fun y => y ++ (List.range m).map (n + ·)
/-! ### turned -/
def turnL (n : Nat) (y : List Nat) : List Nat := (List.range n).filter fun x => !decide (n - 1 - x ∈ y)
end
end Pl

set_option Elab.async false
set_option linter.all false
set_option maxRecDepth 100000
set_option maxHeartbeats 4000000
/-! Rb: webs seen whole; a dict of pairs as it grows, and sorted. -/
namespace Pl
open PySem L2 Gx PySem.Spec PyProof.Rows
/-! ### d[(..)] = e in an own dict of tuples -/
def putT (ps : List (List L2.Key × E)) (k : List L2.Key) (e : E) : List (List L2.Key × E) := if (ps.any fun p => decide (p.1 = k)) = true then ps.map (fun p => if p.1 = k then (p.1, e) else p) else ps ++ [(k, e)]
theorem EvT.keys {H : Hp} : ∀ {ps : List (List L2.Key × E)} {ks : List (List L2.Key × V)}, EvT H ks ps → ks.map (·.1) = ps.map (·.1)
  | [], ks, q => by rw [show ks = [] from q]; rfl
  | (k, e) :: ps, _, ⟨v, r, e1, q, t⟩ => by rw [e1, List.map_cons, List.map_cons, EvT.keys t]
theorem EvT.appendT {H : Hp} : ∀ {ps qs : List (List L2.Key × E)} {ks js : List (List L2.Key × V)}, EvT H ks ps → EvT H js qs → EvT H (ks ++ js) (ps ++ qs)
  | [], _, ks, _, q, z => by rw [show ks = [] from q]; exact z
  | (k, e) :: ps, _, _, js, ⟨v, r, e1, q, t⟩, z => ⟨v, r ++ js, by rw [e1]; rfl, q, EvT.appendT t z⟩
theorem EvT.chg {H : Hp} {k : List L2.Key} {v : V} {e : E} (h : Ev H v e) : ∀ {ps : List (List L2.Key × E)} {ks : List (List L2.Key × V)}, EvT H ks ps → EvT H (ks.map fun kv => if kv.1 = k then (kv.1, v) else kv) (ps.map fun p => if p.1 = k then (p.1, e) else p)
  | [], ks, q => by rw [show ks = [] from q]; rfl
  | (k', e') :: ps, _, ⟨w, r, e1, q, t⟩ => by
    rw [e1, List.map_cons, List.map_cons]
    by_cases hk : k' = k
    · rw [if_pos hk, if_pos hk]
      exact ⟨v, _, rfl, h, EvT.chg h t⟩
    · rw [if_neg hk, if_neg hk]
      exact ⟨w, _, rfl, q, EvT.chg h t⟩
theorem any_keys {α : Type} (ks : List (List L2.Key × α)) (k : List L2.Key) : (ks.any fun kv => decide (kv.1 = k)) = (ks.map (·.1)).any fun x => decide (x = k) := by rw [List.any_map]; rfl
theorem EvT.put {H : Hp} {ps : List (List L2.Key × E)} {ks : List (List L2.Key × V)} {k : List L2.Key} {v : V} {e : E} (t : EvT H ks ps) (h : Ev H v e) : EvT H (putK ks k v) (putT ps k e) := by
  unfold putK putT
  have e1 : (ks.any fun kv => decide (kv.1 = k)) = ps.any fun p => decide (p.1 = k) := by rw [any_keys, any_keys, t.keys]
  rw [e1]
  by_cases hb : (ps.any fun p => decide (p.1 = k)) = true
  · rw [if_pos hb, if_pos hb]
    exact t.chg h
  · rw [if_neg hb, if_neg hb]
    exact t.appendT ⟨v, [], rfl, h, rfl⟩
theorem keys_of {H : Hp} : ∀ {kk : List L2.Key} {vs : List V}, EvL H vs (kk.map keyE) → vs = kk.map kV
  | [], _, q => q
  | k :: kk, _, ⟨v, r, e, q, t⟩ => by rw [e, keyE_of q, keys_of t, List.map_cons]
section
variable {X : XC} {ρ : Env} {n : Nat} {ty tv : TE} {nx b c : Env → Prop} {rt : M → Prop} {ps : List (List L2.Key × E)}
theorem p_dputT (k : pE X tv ρ fun m ρ1 => ∃ e ps, m.frz = .sh e ∧ ρ1[n]? = some (.ot ps) ∧ pE X ty ρ1 fun m2 ρ2 => ∃ (kk : List L2.Key), m2.frz = .sh (.tup (kk.map keyE)) ∧ ρ2[n]? = some (.ot ps) ∧ ps.length < sizeLine ∧ nx (ρ2.set n (.ot (putT ps kk e)))) :
    pS X (sDPut (tVar n) ty tv) ρ ⟨nx, rt, b, c⟩ := fun B σ H D r xo ok =>
  k B σ H _ r xo fun v m ρ1 H1 r1 ⟨e, ps, em, h1, q1⟩ => by
    have r1 := r1.frz
    rw [em] at r1
    obtain ⟨y, hy, a, ks0, rfl, _⟩ := r1.tail.sl.at h1
    refine ⟨_, hy, q1 _ σ H1 _ (Rel.hide (ρf := [.sh e]) (σf := [some v]) r1 rfl) (XOk.hide (ρf := [.sh e]) (σf := [some v]) xo r1 rfl) fun w m2 ρ2 H2 r2 ⟨kk, em2, h2, hz, q2⟩ => ?_⟩
    have r2 : Rel B (.sh e :: m2.frz :: ρ2) (some v :: some w :: σ) H2 := Rel.unhide (ρf := [.sh e]) (σf := [some v]) r1 rfl r2.frz
    rw [em2] at r2
    have hv := r2.val
    obtain ⟨bb, vs, rfl, g1, _, g2⟩ := r2.tail.val
    obtain rfl := keys_of g2
    have r3 := r2.tail.tail
    obtain ⟨y2, hy2, a2, ks, e2, g3, g4, g5⟩ := r3.sl.at h2
    rw [hy] at hy2
    cases hy2
    cases e2
    obtain ⟨z, hz2, r4⟩ := r3.take h2
    rw [hy] at hz2
    cases hz2
    have hl : ks.length < sizeLine := by rw [g5.length]; exact hz
    refine ⟨a, _, rfl, DPut.t g3 (wos_some g1).2 hl, ?_⟩
    have pm : (owns (M.ot ps :: ρ2.set n .no) (some (.ref a) :: σ)).Perm (owns ρ2 σ) := owns_take h2 hy
    have sw := wos_perm (H := H2) (pm.append_right B.O1)
    have hl2 : (putK ks kk v).length ≤ sizeLine := by
      unfold putK
      split
      · rw [List.length_map]; exact g4
      · rw [List.length_append]; exact hl
    have r5 := r4.write (q := a) (o := .dT (putK ks kk v)) (m' := .ot (putT ps kk e)) (List.mem_cons_self ..) rfl ⟨a, _, rfl, upd_same, hl2, EvT.put (g5.mono sw) (hv.mono sw)⟩
    have r6 := r5.set n
    rw [List.set_set, set_self hy] at r6
    exact ok.nx _ _ _ r6 q2
end
/-- what a slot holds is given up -/
theorem p_noS {X : XC} {ρ : Env} {P : Post} {t : TS} (i : Nat) {m : M} (h : ρ[i]? = some m) (k : pS X t (ρ.set i .no) P) : pS X t ρ P := fun B σ H D R x ok => by
  obtain ⟨_, _, r⟩ := R.take h
  exact k B σ H D r.tail x ok
/-! ### the pairs of a dict -/
def keyP (p : Int × Int) : List L2.Key := [.inl p.1, .inl p.2]
theorem keyP_inj {p q : Int × Int} (h : keyP p = keyP q) : p = q := by
  obtain ⟨a, b⟩ := p
  obtain ⟨c, d⟩ := q
  cases h
  rfl
def dE (e : E) (ks : List (Int × Int)) : List (List L2.Key × E) := ks.map fun p => (keyP p, e)
/-- each pair once, where it comes first -/
def ddP (A : List (Int × Int)) : List (Int × Int) := A.foldl (fun acc p => if p ∈ acc then acc else acc ++ [p]) []
theorem ddP_snoc (A : List (Int × Int)) (p : Int × Int) : ddP (A ++ [p]) = if p ∈ ddP A then ddP A else ddP A ++ [p] := by
  unfold ddP
  rw [List.foldl_append]
  rfl
theorem mem_ddP {q : Int × Int} (A : List (Int × Int)) : q ∈ ddP A ↔ q ∈ A := by
  refine list_snoc_ind (P := fun A => q ∈ ddP A ↔ q ∈ A) Iff.rfl (fun A p ih => ?_) A
  rw [ddP_snoc, List.mem_append, ← ih, List.mem_singleton]
  by_cases h : p ∈ ddP A
  · rw [if_pos h]
    exact ⟨.inl, fun z => z.elim id fun z => by rw [z]; exact h⟩
  · rw [if_neg h, List.mem_append, List.mem_singleton]
theorem ddP_nodup (A : List (Int × Int)) : (ddP A).Nodup := by
  refine list_snoc_ind (P := fun A => (ddP A).Nodup) List.nodup_nil (fun A p ih => ?_) A
  rw [ddP_snoc]
  by_cases h : p ∈ ddP A
  · rw [if_pos h]; exact ih
  · rw [if_neg h]
    exact List.nodup_append.mpr ⟨ih, by simp, fun x hx y hy => by rw [List.mem_singleton.mp hy]; rintro rfl; exact h hx⟩
theorem ddP_len (A : List (Int × Int)) : (ddP A).length ≤ A.length := by
  refine list_snoc_ind (P := fun A => (ddP A).length ≤ A.length) (Nat.le_refl _) (fun A p ih => ?_) A
  rw [ddP_snoc, List.length_append]
  split
  · exact Nat.le_add_right_of_le ih
  · rw [List.length_append]; exact Nat.add_le_add_right ih _
theorem put_dE {e : E} (A : List (Int × Int)) (p : Int × Int) : putT (dE e (ddP A)) (keyP p) e = dE e (ddP (A ++ [p])) := by
  rw [ddP_snoc]
  unfold putT
  have e1 : ((dE e (ddP A)).any fun x => decide (x.1 = keyP p)) = decide (p ∈ ddP A) := by
    unfold dE
    rw [List.any_map, Bool.eq_iff_iff, List.any_eq_true, decide_eq_true_iff]
    constructor
    · rintro ⟨q, hq, h⟩
      rw [← keyP_inj (of_decide_eq_true h)]
      exact hq
    · exact fun h => ⟨p, h, decide_eq_true rfl⟩
  rw [e1]
  by_cases h : p ∈ ddP A
  · rw [if_pos (decide_eq_true h), if_pos h]
    unfold dE
    rw [List.map_map]
    refine List.map_congr_left fun q _ => ?_
    show (if keyP q = keyP p then (keyP q, e) else (keyP q, e)) = (keyP q, e)
    split <;> rfl
  · rw [if_neg (by rw [decide_eq_true_iff]; exact h), if_neg h]
    unfold dE
    rw [List.map_append]
    rfl
def pleB (p q : Int × Int) : Bool := decide (p.1 < q.1 ∨ (p.1 = q.1 ∧ p.2 ≤ q.2))
/-- the pairs in order, each once -/
def arrS (A : List (Int × Int)) : List (Int × Int) := (ddP A).mergeSort pleB
theorem arrS_perm (A : List (Int × Int)) : (arrS A).Perm (ddP A) := List.mergeSort_perm _ _
theorem mem_arrS {q : Int × Int} {A : List (Int × Int)} : q ∈ arrS A ↔ q ∈ A := (arrS_perm A).mem_iff.trans (mem_ddP A)
theorem arrS_asc (A : List (Int × Int)) : (arrS A).Pairwise plt := by
  have h1 : (arrS A).Pairwise fun p q => pleB p q = true := List.pairwise_mergeSort (fun a b c h1 h2 => by
    have h1 := of_decide_eq_true h1
    have h2 := of_decide_eq_true h2
    exact decide_eq_true (by omega)) (fun a b => by
    unfold pleB
    rw [Bool.or_eq_true, decide_eq_true_iff, decide_eq_true_iff]
    omega) _
  have h2 : (arrS A).Nodup := (arrS_perm A).nodup_iff.mpr (ddP_nodup A)
  refine (h1.and h2).imp fun {p q} ⟨h, hn⟩ => ?_
  have h := of_decide_eq_true h
  have hn : ¬ (p.1 = q.1 ∧ p.2 = q.2) := fun z => hn (Prod.ext z.1 z.2)
  unfold plt
  omega
theorem arrS_len (A : List (Int × Int)) : (arrS A).length = (ddP A).length := (arrS_perm A).length_eq
theorem arrS_uniq {A B : List (Int × Int)} (h : B.Pairwise plt) (hm : ∀ q, q ∈ B ↔ q ∈ A) : arrS A = B :=
  plt_one (arrS_asc A) h ((List.perm_ext_iff_of_nodup (plt_nd (arrS_asc A)) (plt_nd h)).mpr fun q => mem_arrS.trans (hm q).symm)
theorem arrS_self {B : List (Int × Int)} (h : B.Pairwise plt) : arrS B = B := arrS_uniq h fun _ => Iff.rfl
theorem arrS_congr {A B : List (Int × Int)} (h : ∀ q, q ∈ A ↔ q ∈ B) : arrS A = arrS B := arrS_uniq (arrS_asc B) fun q => mem_arrS.trans (h q).symm
/-- pairs of numbers as data that can be read -/
theorem ev_pairs {W H : Hp} (s : ∀ t x y, H t = some (.tup [.int x, .int y]) → W t = some (.tup [.int x, .int y])) : ∀ {A : List (Int × Int)} {ys : List V}, DvL H ys (A.map pD) → EvL W ys (A.map prE)
  | [], _, q => q
  | a :: A, _, ⟨v, r, e, ⟨t, ws, e2, ht, hl, hw⟩, h⟩ => by
    obtain ⟨_, _, rfl, rfl, _, _, rfl, rfl, rfl⟩ := hw
    exact ⟨v, r, e, ⟨t, _, e2, s t _ _ ht, hl, ⟨_, _, rfl, rfl, _, _, rfl, rfl, rfl⟩⟩, ev_pairs s h⟩
/-- sorted(d) of a dict of pairs -/
theorem v_sortDt {Q : M → Prop} {e : E} {ks : List (Int × Int)} (nd : ks.Nodup) (k : Q (.ow ((arrS ks).map prE))) : pL rSortedDT [.sh (.dit (dE e ks))] Q := fun B ρ σ H vs R hl r f => by
  match vs, hl, r with
  | [v], _, r =>
    obtain ⟨p, kvs, rfl, g1, gz, g2⟩ := r.val
    have hk : kvs.map (·.1) = ks.map keyP := by
      rw [g2.keys]
      unfold dE
      rw [List.map_map]
      rfl
    have kp : (kvs.map fun e => kpair e.1) = ks := by
      rw [kp_map, hk, List.map_map]
      exact List.map_id'' (fun p => rfl) ks
    have K : Keys kvs (arrS ks) := ⟨fun x hx => by
        have : x.1 ∈ ks.map keyP := by rw [← hk]; exact List.mem_map.mpr ⟨x, hx, rfl⟩
        obtain ⟨q, _, e⟩ := List.mem_map.mp this
        exact ⟨q.1, q.2, e.symm⟩, by rw [kp]; exact nd, fun q => by rw [kp]; exact mem_arrS.symm, by
        have h1 := congrArg List.length hk
        rw [List.length_map, List.length_map] at h1
        have h2 : (arrS ks).Perm ks := (List.perm_ext_iff_of_nodup (plt_nd (arrS_asc ks)) nd).mpr fun q => mem_arrS
        rw [h1, h2.length_eq]
        exact Nat.le_refl _⟩
    refine Gx.r_sortedDT (wos_some g1).2 K (arrS_asc ks) fun a ys hp hys => ?_
    have hlen := DvL.length hys
    rw [List.length_map] at hlen
    have hz : ys.length ≤ sizeLine := by
      have h1 := congrArg List.length hk
      rw [List.length_map, List.length_map] at h1
      have h2 : (arrS ks).Perm ks := (List.perm_ext_iff_of_nodup (plt_nd (arrS_asc ks)) nd).mpr fun q => mem_arrS
      rw [hlen, h2.length_eq, ← h1]
      exact gz
    have r0 := r.tail
    refine f _ (.ow ((arrS ks).map prE)) _ (r0.pushL hp hz (ev_pairs (fun t x y ht => ?_) hys)) k
    rw [wos_out]
    · exact ht
    · intro hm
      rcases List.mem_append.mp hm with hm | hm
      · obtain ⟨o, ho, hmu⟩ := r0.sl.mut t hm
        rw [ht] at ho
        cases ho
        rcases hmu with ⟨_, z⟩ | ⟨_, z⟩ | ⟨_, z⟩ | ⟨_, _, _, z⟩ | ⟨_, _, z⟩ <;> cases z
      · obtain ⟨o, ho, hmu⟩ := r0.aliveM t hm
        rw [ht] at ho
        cases ho
        rcases hmu with ⟨_, z⟩ | ⟨_, z⟩ | ⟨_, z⟩ | ⟨_, _, _, z⟩ | ⟨_, _, z⟩ <;> cases z
/-! ### webs -/
structure WebT (n : Nat) (As : List (Int × Int)) : Prop where
  n2 : n ≤ 2000
  asc : As.Pairwise plt
  rng : ∀ q ∈ As, 0 ≤ q.1 ∧ q.1 < n ∧ 0 ≤ q.2 ∧ q.2 < n
  len : As.length ≤ 2000
def rowsI (n : Nat) (f : Int → List Int) : List E := (List.range n).map fun u : Nat => .lst ((f (u : Int)).map E.int)
def webF (n : Nat) (ks As : List (Int × Int)) : List (Str × E) := [(("_known" : Str), .dit (dE (.bl true) ks)), (("_arrows" : Str), .lst (As.map prE)), (("_outs" : Str), .lst (rowsI n (outsOf As))), (("_ins" : Str), .lst (rowsI n (insOf As)))]
/-- an instance of the class at C, a web -/
def WbE (C : Addr) (e : E) (n : Nat) (As : List (Int × Int)) : Prop := WebT n As ∧ ∃ ks, e = .ob C (webF n ks As) ∧ ks.Nodup ∧ ∀ q, q ∈ ks ↔ q ∈ As
def wFld (f : Str) : E → List E
  | .ob _ fs => (match fs.lookup f with
    | some (.lst es) => es
    | _ => [])
  | _ => []
/-- how many places, which arrows -/
def wN (e : E) : Nat := (wFld "_outs" e).length
def wA (e : E) : List (Int × Int) := (allPr (wFld "_arrows" e)).getD []
theorem allPr_map : ∀ A : List (Int × Int), allPr (A.map prE) = some A
  | [] => rfl
  | p :: A => by
    show (match prOf (prE p), allPr (A.map prE) with
      | some p, some A => some (p :: A)
      | _, _ => none) = _
    rw [allPr_map A]
    rfl
theorem rowsI_len (n : Nat) (f : Int → List Int) : (rowsI n f).length = n := by
  unfold rowsI
  rw [List.length_map, List.length_range]
theorem wN_web {C : Addr} {n : Nat} {ks As : List (Int × Int)} : wN (.ob C (webF n ks As)) = n := rowsI_len n (outsOf As)
theorem wA_web {C : Addr} {n : Nat} {ks As : List (Int × Int)} : wA (.ob C (webF n ks As)) = As := by
  show (allPr (As.map prE)).getD [] = As
  rw [allPr_map]
  rfl
theorem WbE.wN {C : Addr} {e : E} {n : Nat} {As : List (Int × Int)} (h : WbE C e n As) : wN e = n := by
  obtain ⟨_, ks, rfl, _⟩ := h
  exact wN_web
theorem WbE.wA {C : Addr} {e : E} {n : Nat} {As : List (Int × Int)} (h : WbE C e n As) : wA e = As := by
  obtain ⟨_, ks, rfl, _⟩ := h
  exact wA_web
/-- a new web of these pairs -/
def webE (C : Addr) (n : Nat) (A : List (Int × Int)) : E := .ob C (webF n (ddP A) (arrS A))
def Within (n : Nat) (A : List (Int × Int)) : Prop := ∀ q ∈ A, 0 ≤ q.1 ∧ q.1 < n ∧ 0 ≤ q.2 ∧ q.2 < n
theorem outsOf_len (A : List (Int × Int)) (u : Int) : (outsOf A u).length ≤ A.length := by
  unfold outsOf
  rw [List.length_map]
  exact List.length_filter_le _ _
theorem insOf_len (A : List (Int × Int)) (u : Int) : (insOf A u).length ≤ A.length := by
  unfold insOf
  rw [List.length_map]
  exact List.length_filter_le _ _
theorem allPr_snoc : ∀ {es : List E} {A : List (Int × Int)} {z : E} {p : Int × Int}, allPr es = some A → prOf z = some p → allPr (es ++ [z]) = some (A ++ [p])
  | [], A, z, p, h, hz => by
    cases h
    show (match prOf z, allPr [] with
      | some p, some A => some (p :: A)
      | _, _ => none) = _
    rw [hz]
    rfl
  | e :: es, A, z, p, h, hz => by
    have h : (match prOf e, allPr es with
      | some p, some A => some (p :: A)
      | _, _ => none) = some A := h
    show (match prOf e, allPr (es ++ [z]) with
      | some p, some A => some (p :: A)
      | _, _ => none) = _
    cases h1 : prOf e with
    | none => rw [h1] at h; cases h
    | some q =>
      cases h2 : allPr es with
      | none => rw [h1, h2] at h; cases h
      | some A' =>
        rw [h1, h2] at h
        cases h
        rw [allPr_snoc h2 hz]
        rfl
theorem nine_of {α : Type} {l : List α} (h : l.length = 9) : ∃ a b c d e f g i j, l = [a, b, c, d, e, f, g, i, j] := by
  match l, h with
  | [a, b, c, d, e, f, g, i, j], _ => exact ⟨a, b, c, d, e, f, g, i, j, rfl⟩
theorem rows_ev {W H : Hp} {n : Nat} {f : Int → List Int} : ∀ {bs : List Addr}, bs.length = n → (∀ b ∈ bs, ∀ o, H b = some o → W b = some o) → Rows H bs f → (∀ u : Int, (f u).length ≤ sizeLine) → EvL W (bs.map V.ref) (rowsI n f) := fun {bs} hl hw hr hz => by
  have rowI : ∀ l : List Int, EvL W (l.map V.int) (l.map E.int) := fun l => by
    induction l with
    | nil => rfl
    | cons i l ih => exact ⟨_, _, rfl, rfl, ih⟩
  have go : ∀ (m : Nat) (cs : List Addr), m ≤ n → cs = bs.drop (n - m) → EvL W (cs.map V.ref) (((List.range m).map fun k => n - m + k).map fun u : Nat => .lst ((f (u : Int)).map E.int)) := by
    intro m
    induction m with
    | zero =>
      intro cs hm hcs
      rw [hcs, List.drop_eq_nil_of_le (by omega)]
      rfl
    | succ m ih =>
      intro cs hm hcs
      have hlt : n - (m + 1) < bs.length := by omega
      rw [List.drop_eq_getElem_cons hlt, show n - (m + 1) + 1 = n - m by omega] at hcs
      subst hcs
      have e : ((List.range (m + 1)).map fun k => n - (m + 1) + k) = (n - (m + 1)) :: (List.range m).map fun k => n - m + k := by
        rw [List.range_succ_eq_map, List.map_cons, List.map_map]
        congr 1
        refine List.map_congr_left fun k _ => ?_
        show n - (m + 1) + (k + 1) = n - m + k
        omega
      rw [e, List.map_cons, List.map_cons]
      have hb := hr (n - (m + 1)) _ (List.getElem?_eq_getElem hlt)
      exact ⟨_, _, rfl, ⟨_, _, rfl, hw _ (List.getElem_mem hlt) _ hb, by rw [List.length_map]; exact hz _, rowI _⟩, ih _ (by omega) rfl⟩
  have := go n bs (Nat.le_refl _) (by rw [Nat.sub_self]; rfl)
  unfold rowsI
  rw [Nat.sub_self] at this
  simpa using this
end Pl

set_option Elab.async false
set_option linter.all false
set_option maxRecDepth 100000
set_option maxHeartbeats 4000000
/-! Rc: == and != of plain data; who is asked first. -/
namespace Pl
open PySem L2 Gx PySem.Spec PyProof.Rows
mutual
/-- numbers, truths, and lists and tuples of these -/
def lay : E → Bool
  | .non => true
  | .bl _ => true
  | .int _ => true
  | .lst es => lays es
  | .tup es => lays es
  | _ => false
def lays : List E → Bool
  | [] => true
  | e :: es => lay e && lays es
end
mutual
theorem lay_flat : ∀ {e : E}, lay e = true → flat e = true
  | .non, _ => rfl
  | .bl _, _ => rfl
  | .int _, _ => rfl
  | .str _, h => nomatch h
  | .lst es, h => lays_flat (show lays es = true from h)
  | .tup es, h => lays_flat (show lays es = true from h)
  | .dic _, h => nomatch h
  | .dit _, h => nomatch h
  | .ob _ _, h => nomatch h
  | .pr _, h => nomatch h
theorem lays_flat : ∀ {es : List E}, lays es = true → flats es = true
  | [], _ => rfl
  | e :: es, h => by
    have h2 := He.ba (show (lay e && lays es) = true from h)
    show (flat e && flats es) = true
    rw [lay_flat h2.1, lays_flat h2.2]
    rfl
end
mutual
theorem lay_can : ∀ {e : E}, lay e = true → PyData.canLay0 (encP e) = true
  | .non, _ => rfl
  | .bl _, _ => rfl
  | .int _, _ => rfl
  | .str _, h => nomatch h
  | .lst es, h => lays_can (show lays es = true from h)
  | .tup es, h => lays_can (show lays es = true from h)
  | .dic _, h => nomatch h
  | .dit _, h => nomatch h
  | .ob _ _, h => nomatch h
  | .pr _, h => nomatch h
theorem lays_can : ∀ {es : List E}, lays es = true → PyData.canLayAll0 (encPs es) = true
  | [], _ => rfl
  | e :: es, h => by
    have h2 := He.ba (show (lay e && lays es) = true from h)
    show (PyData.canLay0 (encP e) && PyData.canLayAll0 (encPs es)) = true
    rw [lay_can h2.1, lays_can h2.2]
    rfl
end
mutual
theorem enc_dep : ∀ e : E, (encP e).depth ≤ dep e
  | .non => Nat.zero_le _
  | .bl _ => Nat.zero_le _
  | .int _ => Nat.zero_le _
  | .str _ => Nat.zero_le _
  | .lst es => by
    rw [dep_lst]
    show PyData.depthAll (encPs es) + 1 ≤ _
    have := encs_dep es
    omega
  | .tup es => by
    rw [dep_tup]
    show PyData.depthAll (encPs es) + 1 ≤ _
    have := encs_dep es
    omega
  | .dic _ => Nat.zero_le _
  | .dit _ => Nat.zero_le _
  | .ob _ _ => Nat.zero_le _
  | .pr _ => Nat.zero_le _
theorem encs_dep : ∀ es : List E, PyData.depthAll (encPs es) ≤ deps es
  | [] => Nat.zero_le _
  | e :: es => by
    rw [deps_cons]
    show max (encP e).depth (PyData.depthAll (encPs es)) ≤ _
    have := enc_dep e
    have := encs_dep es
    omega
end
theorem lay_shaped {e : E} (h : lay e = true) (hd : dep e ≤ 64) : SeqAt.shaped (encP e) = true := by
  unfold SeqAt.shaped
  rw [lay_can h, decide_eq_true (Nat.le_trans (enc_dep e) hd)]
  rfl
/-- equal, as == says -/
abbrev eqE (a b : E) : Bool := PyData.eqv (encP a) (encP b)
section
variable {K : PySem.W.Frag} {Q : M → Prop} {a b : E}
theorem v_eqP (h1 : lay a = true) (h2 : lay b = true) (d1 : dep a ≤ 64) (d2 : dep b ≤ 64) (k : Q (.sh (.bl (eqE a b)))) : p2 (rEqG K) (.sh a) (.sh b) Q := fun B ρ σ H u v R r f =>
  .inr ⟨_, _, Ev.dp wos_sub (lay_flat h1) r.val, Ev.dp wos_sub (lay_flat h2) r.tail.val, lay_shaped h1 d1, lay_shaped h2 d2, f _ _ H (r.tail.tail.push (e := .bl (eqE a b)) rfl) k⟩
theorem v_neP (h1 : lay a = true) (h2 : lay b = true) (d1 : dep a ≤ 64) (d2 : dep b ≤ 64) (k : Q (.sh (.bl (!eqE a b)))) : p2 (rNeG K) (.sh a) (.sh b) Q := fun B ρ σ H u v R r f =>
  .inr ⟨_, _, Ev.dp wos_sub (lay_flat h1) r.val, Ev.dp wos_sub (lay_flat h2) r.tail.val, lay_shaped h1 d1, lay_shaped h2 d2, f _ _ H (r.tail.tail.push (e := .bl (!eqE a b)) rfl) k⟩
end
theorem lays_map {α : Type} {f : α → E} {xs : List α} (h : ∀ x ∈ xs, lay (f x) = true) : lays (xs.map f) = true := by
  induction xs with
  | nil => rfl
  | cons x xs ih =>
    show (lay (f x) && lays (xs.map f)) = true
    rw [h x (List.mem_cons_self ..), ih fun y hy => h y (List.mem_cons_of_mem _ hy)]
    rfl
theorem eqE_all {α : Type} [DecidableEq α] {f : α → E} (h : ∀ x y, eqE (f x) (f y) = decide (x = y)) : ∀ xs ys : List α, PyData.eqvAll (encPs (xs.map f)) (encPs (ys.map f)) = decide (xs = ys)
  | [], [] => rfl
  | [], _ :: _ => rfl
  | _ :: _, [] => rfl
  | x :: xs, y :: ys => by
    show (eqE (f x) (f y) && PyData.eqvAll (encPs (xs.map f)) (encPs (ys.map f))) = decide (x :: xs = y :: ys)
    rw [eqE_all h xs ys, h x y, ← Bool.decide_and]
    exact decide_eq_decide.mpr (by rw [List.cons.injEq])
theorem eqE_lst {α : Type} [DecidableEq α] {f : α → E} (h : ∀ x y, eqE (f x) (f y) = decide (x = y)) (xs ys : List α) : eqE (.lst (xs.map f)) (.lst (ys.map f)) = decide (xs = ys) := eqE_all h xs ys
theorem eqE_pr (p q : Int × Int) : eqE (prE p) (prE q) = decide (p = q) := by
  show (decide (p.1 = q.1) && (decide (p.2 = q.2) && true)) = _
  rw [Bool.and_true, ← Bool.decide_and]
  exact decide_eq_decide.mpr ⟨fun h => Prod.ext h.1 h.2, fun h => by rw [h]; exact ⟨rfl, rfl⟩⟩
abbrev intsE (l : List Int) : E := .lst (l.map E.int)
/-! ### who is asked first -/
theorem late_kit {K : PySem.W.Frag} {C : Addr} {t : Value} (h : PySem.W.kitOne K t (.ref C) = some false) : laterIn K C t := by
  unfold PySem.W.kitOne at h
  split at h
  · cases h
  · unfold PySem.W.kitCls at h
    simp only at h
    split at h
    · unfold laterIn PySem.W.notFirst
      rw [h]
      simp
    · cases h
theorem late_iso {K : PySem.W.Frag} {C : Addr} {e : E} {t : Value} (h : isOf K C e false) (ht : tyLE e = some t) : laterIn K C t := by
  obtain ⟨t', g1, g2⟩ := h
  have e1 : t' = t := by
    rcases g1 with ⟨n, g, rfl⟩ | ⟨D, fs, rfl, _, rfl⟩ | ⟨g, _⟩
    · cases e <;> first
        | (cases g; cases ht; rfl)
        | (cases g; exact nomatch ht)
        | cases g
    · cases ht
      rfl
    · subst g
      cases ht
  rw [← e1]
  exact late_kit g2
/-- a web as it stands in an instance's fields -/
structure Wb (n : Nat) (ks As : List (Int × Int)) : Prop where
  t : WebT n As
  nd : ks.Nodup
  mem : ∀ q, q ∈ ks ↔ q ∈ As
theorem Wb.e {n : Nat} {ks As : List (Int × Int)} (h : Wb n ks As) (C : Addr) : WbE C (.ob C (webF n ks As)) n As := ⟨h.t, ks, rfl, h.nd, h.mem⟩
theorem WbE.wb {C : Addr} {e : E} {n : Nat} {As : List (Int × Int)} (h : WbE C e n As) : ∃ ks, e = .ob C (webF n ks As) ∧ Wb n ks As := by
  obtain ⟨t, ks, e, nd, mem⟩ := h
  exact ⟨ks, e, t, nd, mem⟩
theorem Wb.new {n : Nat} {A : List (Int × Int)} (hn : n ≤ 2000) (hW : Within n A) (hl : (arrS A).length ≤ 2000) : Wb n (ddP A) (arrS A) :=
  ⟨⟨hn, arrS_asc A, fun q hq => hW q (mem_arrS.mp hq), hl⟩, ddP_nodup A, fun q => (mem_ddP A).trans mem_arrS.symm⟩
theorem inRE_in {lo hi i : Int} (h1 : lo ≤ i) (h2 : i ≤ hi) : inRE lo hi (.int i) = true := inRE_of h1 h2
/-! ### rows of numbers -/
def rowsL (n : Nat) (f : Int → List Int) : List (List Int) := (List.range n).map fun u : Nat => f (u : Int)
theorem deps_map {α : Type} {f : α → E} {c : Nat} {xs : List α} (h : ∀ x ∈ xs, dep (f x) ≤ c) : deps (xs.map f) ≤ c := deps_le fun e he => by
  obtain ⟨x, hx, rfl⟩ := List.mem_map.mp he
  exact h x hx
end Pl

set_option Elab.async false
set_option linter.all false
set_option maxRecDepth 100000
set_option maxHeartbeats 4000000
/-! Rd: a reading cut behind a statement; pairs sorted, and among pairs. -/
namespace Pl
open PySem L2 Gx PySem.Spec PyProof.Rows
section
variable {X : XC} {ρ : Env} {n b c : Env → Prop} {rt : M → Prop} {t s1 s2 : TS}
/-- what is known behind a statement, said once for all ways through it -/
theorem p_cut (P : Env → Prop) (h : pS X t ρ ⟨P, rt, b, c⟩) (k : ∀ ρ', P ρ' → n ρ') : pS X t ρ ⟨n, rt, b, c⟩ := fun B σ H D R xo ok => h B σ H D R xo ⟨fun ρ σ H r q => ok.nx ρ σ H r (k ρ q), ok.rt, ok.bk, ok.ct⟩
theorem p_seqC (P : Env → Prop) (h : pS X s1 ρ ⟨P, rt, b, c⟩) (k : ∀ ρ', P ρ' → pS X s2 ρ' ⟨n, rt, b, c⟩) : pS X (tSeq s1 s2) ρ ⟨n, rt, b, c⟩ := q_seq (p_cut P h k)
end
theorem mono_v {i : Nat} : ∀ (σ : L2.St) (H : Hp) (R R' : VK), (∀ x H1, R x H1 → R' x H1) → tVar i σ H R → tVar i σ H R' := fun σ H R R' h ⟨v, hv, q⟩ => ⟨v, hv, h _ _ q⟩
theorem pT.mono {X : XC} {ρ : Env} {tt : TT} {Q Q' : Bool → Env → Prop} (h : pT X tt ρ Q) (k : ∀ b ρ', Q b ρ' → Q' b ρ') : pT X tt ρ Q' := fun B σ H R r x f => h B σ H R r x fun b ρ' H' r' q => f b ρ' H' r' (k b ρ' q)
theorem nodup_sub_len {α : Type} [DecidableEq α] : ∀ {l m : List α}, l.Nodup → (∀ x ∈ l, x ∈ m) → l.length ≤ m.length
  | [], _, _, _ => Nat.zero_le _
  | x :: l, m, h, hs => by
    obtain ⟨h1, h2⟩ := List.nodup_cons.mp h
    have hx := hs x (List.mem_cons_self ..)
    have := nodup_sub_len (m := m.erase x) h2 fun y hy => (List.mem_erase_of_ne fun e => h1 (by rw [← e]; exact hy)).mpr (hs y (List.mem_cons_of_mem _ hy))
    rw [List.length_erase_of_mem hx] at this
    have := List.length_pos_of_mem hx
    rw [List.length_cons]
    omega
/-! ### sorted(pairs) -/
theorem prE_ints (p : Int × Int) : encPs [E.int p.1, E.int p.2] = [p.1, p.2].map PyData.int := rfl
theorem leD_pr (p q : Int × Int) : leD (prE p) (prE q) = pleB p q := by
  show (!PySem.W.dataLt (.tuple (encPs [E.int q.1, E.int q.2])) (.tuple (encPs [E.int p.1, E.int p.2]))) = _
  rw [prE_ints, prE_ints, PySem.W.dataLt_tuple]
  have e3 : PySem.W.rowLt ([q.1, q.2].map PyData.int) ([p.1, p.2].map PyData.int) = decide ([q.1, q.2] < [p.1, p.2]) := by rw [PySem.W.dataLt_ints]
  unfold PySem.W.rowLt at e3
  rw [e3]
  unfold pleB
  rw [← decide_not]
  refine decide_eq_decide.mpr ?_
  rw [List.not_lt]
  constructor
  · intro h
    rcases List.le_iff_lt_or_eq.mp h with h | h
    · rcases List.cons_lt_cons_iff.mp h with h | ⟨h1, h2⟩
      · exact .inl h
      · rcases List.cons_lt_cons_iff.mp h2 with h2 | ⟨_, h3⟩
        · exact .inr ⟨h1, Int.le_of_lt h2⟩
        · exact absurd h3 (List.not_lt_nil _)
    · simp only [List.cons.injEq, and_true] at h
      exact .inr ⟨h.1, by rw [h.2]; exact Int.le_refl _⟩
  · intro h
    refine List.le_iff_lt_or_eq.mpr ?_
    rcases h with h | ⟨h1, h2⟩
    · exact .inl (List.cons_lt_cons_iff.mpr (.inl h))
    · rcases Int.lt_or_eq_of_le h2 with h2 | h2
      · exact .inl (List.cons_lt_cons_iff.mpr (.inr ⟨h1, List.cons_lt_cons_iff.mpr (.inl h2)⟩))
      · exact .inr (by rw [h1, h2])
theorem pr_srt (l : List (Int × Int)) : SrtOk (l.map prE) where
  fl := fun e he => by
    obtain ⟨p, _, rfl⟩ := List.mem_map.mp he
    rfl
  al := by
    rw [List.map_map]
    refine PySem.W.AllAlike.of fun p q => ?_
    show PySem.W.alike (.tuple ([p.1, p.2].map PyData.int)) (.tuple ([q.1, q.2].map PyData.int)) = true
    exact PySem.W.alike_ints _ _
  so := .inl fun d hd => by
    obtain ⟨e, he, rfl⟩ := List.mem_map.mp hd
    obtain ⟨p, hp, rfl⟩ := List.mem_map.mp he
    exact ⟨_, _, rfl⟩
  dp := fun e he => by
    obtain ⟨p, _, rfl⟩ := List.mem_map.mp he
    show (PyData.tuple ([p.1, p.2].map PyData.int)).depth ≤ 60
    simp only [PyData.depth, PySem.W.depth_ints]
    decide
def sortP (l : List (Int × Int)) : List (Int × Int) := l.mergeSort pleB
theorem pr_sort (l : List (Int × Int)) : (l.map prE).mergeSort leD = (sortP l).map prE :=
  (List.map_mergeSort (r := pleB) (s := leD) (f := prE) (l := l) fun a _ b _ => (leD_pr a b).symm).symm
theorem ddP_self {A : List (Int × Int)} (h : A.Nodup) : ddP A = A := by
  have go : ∀ A : List (Int × Int), A.Nodup → ddP A = A := fun A => by
    refine list_snoc_ind (P := fun A => A.Nodup → ddP A = A) (fun _ => rfl) (fun A p ih hn => ?_) A
    obtain ⟨h1, _, h3⟩ := List.nodup_append.mp hn
    rw [ddP_snoc, ih h1, if_neg fun hm => h3 p hm p (List.mem_singleton.mpr rfl) rfl]
  exact go A h
theorem sortP_arrS {A : List (Int × Int)} (h : A.Nodup) : sortP A = arrS A := by
  unfold sortP arrS
  rw [ddP_self h]
theorem v_sortP {K : PySem.W.Frag} {Q : M → Prop} {l : List (Int × Int)} (k : Q (.ow ((sortP l).map prE))) : pL (rSortD K) [.sh (.lst (l.map prE))] Q := v_sortD (pr_srt l) (by rw [pr_sort]; exact k)
/-! ### x in ys, data -/
theorem room65 {k : Nat} {A : Around} (r : Room k A) : A.units + 65 < cLine := by have := r.un; omega
theorem k_inD {X : Cx} (K : PySem.W.Frag) (hu : X.A.units + 65 < cLine) (hK : X.K = K := by rfl) : OpR X (compareOp .In) (rInD K) := by subst hK; exact op_inD hu
theorem v_inD {K : PySem.W.Frag} {Q : M → Prop} {a : E} {es : List E} (h1 : lay a = true) (h2 : lays es = true) (d1 : dep a ≤ 64) (d2 : dep (.lst es) ≤ 64) (k : Q (.sh (.bl ((encPs es).any fun z => PyData.eqv z (encP a))))) : p2 (rInD K) (.sh a) (.sh (.lst es)) Q := fun B ρ σ H u v R r f =>
  ⟨_, encPs es, Ev.dp wos_sub (lay_flat h1) r.val, Ev.dp wos_sub (lay_flat (e := .lst es) h2) r.tail.val, lay_shaped h1 d1, lay_shaped (e := .lst es) h2 d2, f _ _ H (r.tail.tail.push (e := .bl _) rfl) k⟩
theorem any_eqE {α : Type} [DecidableEq α] {f : α → E} (h : ∀ x y, eqE (f x) (f y) = decide (x = y)) (a : α) : ∀ xs : List α, ((encPs (xs.map f)).any fun z => PyData.eqv z (encP (f a))) = decide (a ∈ xs)
  | [] => rfl
  | x :: xs => by
    show (eqE (f x) (f a) || (encPs (xs.map f)).any fun z => PyData.eqv z (encP (f a))) = decide (a ∈ x :: xs)
    rw [any_eqE h a xs, h x a, ← Bool.decide_or]
    exact decide_eq_decide.mpr ⟨fun z => List.mem_cons.mpr (z.imp Eq.symm id), fun z => (List.mem_cons.mp z).imp Eq.symm id⟩
theorem v_inP {K : PySem.W.Frag} {Q : M → Prop} {p : Int × Int} {A : List (Int × Int)} (k : Q (.sh (.bl (decide (p ∈ A))))) : p2 (rInD K) (.sh (.tup [.int p.1, .int p.2])) (.sh (.lst (A.map prE))) Q :=
  v_inD rfl (lays_map fun _ _ => rfl) (by show 1 + max 0 (max 0 0) ≤ 64; decide) (by
    rw [dep_lst]
    have := deps_map (f := prE) (c := 1) (xs := A) fun p _ => Nat.le_refl _
    omega) (by
    have e : ((encPs (A.map prE)).any fun z => PyData.eqv z (encP (prE p))) = decide (p ∈ A) := (any_eqE eqE_pr p A).trans (decide_eq_decide.mpr Iff.rfl)
    rw [show E.tup [.int p.1, .int p.2] = prE p from rfl, e]; exact k)
theorem pairs_lay (A : List (Int × Int)) : lay (.lst (A.map prE)) = true := lays_map fun _ _ => rfl
theorem pairs_dep (A : List (Int × Int)) : dep (.lst (A.map prE)) ≤ 2 := by
  rw [dep_lst]
  have := deps_map (f := prE) (c := 1) (xs := A) fun p _ => Nat.le_refl _
  omega
theorem pairs_nice (A : List (Int × Int)) : plain (.lst (A.map prE)) = true ∧ dep (.lst (A.map prE)) < 72 :=
  ⟨plains_all fun e he => by obtain ⟨p, _, rfl⟩ := List.mem_map.mp he; rfl, by have := pairs_dep A; omega⟩
theorem eqE_prs (A B : List (Int × Int)) : eqE (.lst (A.map prE)) (.lst (B.map prE)) = decide (A = B) := eqE_lst eqE_pr A B
/-! ### a method called by keywords alone -/
section
variable {X : Cx} {CX : CXT} {k : Nat} {f C : Addr} {fd : FuncData} {ps ks : List Str} {sp : Sp} {Ew : XK} {m : Str} {o : Expr} {ta : TE} {apos pos : Pos} {kws : List Keyword} {tk : TA} {g : List Value → List Value → List Value} {gV : List V → List V → List V}
end
end Pl

set_option Elab.async false
set_option linter.all false
set_option maxRecDepth 100000
set_option maxHeartbeats 4000000
/-! Re: an object made from one argument that may be refused. -/
namespace Pl
open PySem L2 Gx PySem.Spec PyProof.Rows
end Pl

set_option Elab.async false
set_option linter.all false
set_option maxRecDepth 100000
set_option maxHeartbeats 4000000
/-! Rf: objects that no one else holds, with all that they hold. -/
namespace Pl
open PySem L2 Gx PySem.Spec PyProof.Rows
/-- own things, and tuples -/
def Xh (as : List Addr) (H W : Hp) : Hp := fun b => if b ∈ as then H b else match W b with
  | some (.tup vs) => some (.tup vs)
  | _ => none
theorem Xh_in {as : List Addr} {H W : Hp} {b : Addr} (h : b ∈ as) : Xh as H W b = H b := if_pos h
theorem Xh_tup {as : List Addr} {H W : Hp} {b : Addr} {vs : List V} (h : b ∉ as) (e : W b = some (.tup vs)) : Xh as H W b = some (.tup vs) := by
  unfold Xh
  rw [if_neg h, e]
theorem Xh_some {as : List Addr} {H W : Hp} {b : Addr} {o : HO} (h : Xh as H W b = some o) : (b ∈ as ∧ H b = some o) ∨ (b ∉ as ∧ W b = some o ∧ ∃ vs, o = .tup vs) := by
  unfold Xh at h
  by_cases hb : b ∈ as
  · rw [if_pos hb] at h
    exact .inl ⟨hb, h⟩
  · rw [if_neg hb] at h
    split at h
    · rename_i vs e
      cases h
      exact .inr ⟨hb, e, _, rfl⟩
    · cases h
theorem Xh_same {as : List Addr} {H H' W W' : Hp} (sW : ∀ b vs, W b = some (.tup vs) → W' b = some (.tup vs)) (sH : ∀ q ∈ as, ∀ o, H q = some o → H' q = some o) : Same (Xh as H W) (Xh as H' W') := fun b o e => by
  rcases Xh_some e with ⟨h1, h2⟩ | ⟨h1, h2, vs, rfl⟩
  · rw [Xh_in h1]
    exact sH b h1 o h2
  · exact Xh_tup h1 (sW _ _ h2)
theorem Xh_sub {as : List Addr} {H W W' : Hp} (sW : ∀ b vs, W b = some (.tup vs) → W' b = some (.tup vs)) (h : ∀ q ∈ as, ∀ o, H q = some o → W' q = some o) : Same (Xh as H W) W' := fun b o e => by
  rcases Xh_some e with ⟨h1, h2⟩ | ⟨h1, h2, vs, rfl⟩
  · exact h b h1 o h2
  · exact sW _ _ h2
/-- the instance at x, and the things at as that its fields hold -/
def obB (x C dx : Addr) (as : List Addr) (fs : List (Str × E)) : Blob where
  as := x :: as
  P := fun H W v => v = .ref x ∧ (∃ fv, H x = some (.ins C dx fv) ∧ EvF (Xh as H W) fv fs) ∧ ∀ q ∈ as, ∃ o, H q = some o ∧ Mut o
  e := .ob C fs
  mono := fun H H' W W' v ⟨e, ⟨fv, h1, h2⟩, h3⟩ sW sH => ⟨e, ⟨fv, sH x (List.mem_cons_self ..) _ h1, h2.mono (Xh_same (fun b vs e => sW _ _ e) fun q hq => sH q (List.mem_cons_of_mem _ hq))⟩, fun q hq => by
    obtain ⟨o, h4, h5⟩ := h3 q hq
    exact ⟨o, sH q (List.mem_cons_of_mem _ hq) o h4, h5⟩⟩
  live := fun H W v ⟨_, ⟨fv, h1, _⟩, h3⟩ q hq => by
    rcases List.mem_cons.mp hq with rfl | hq
    · exact ⟨_, h1, .inr (.inr (.inr (.inl ⟨_, _, _, rfl⟩)))⟩
    · exact h3 q hq
  frz := fun H W v ⟨e, ⟨fv, h1, h2⟩, _⟩ k => ⟨x, dx, fv, e, k x (List.mem_cons_self ..) _ h1, h2.mono (Xh_sub (fun _ _ e => e) fun q hq => k q (List.mem_cons_of_mem _ hq))⟩
abbrev M.dob (x C dx : Addr) (as : List Addr) (fs : List (Str × E)) : M := .bx (obB x C dx as fs)
section
variable {B : Bs} {ρ : Env} {σ : L2.St} {H : Hp} {x C dx : Addr} {as : List Addr} {fs : List (Str × E)}
end
/-! ### __init__ told with all that the new object holds -/
def spJ (C : Addr) (f : List M → Option BrI) : Sp := fun vs H Q E => ∃ x dx ws B ms b, vs = .ref x :: ws ∧ ms.length = ws.length ∧ Rel B (.pt x C dx [] :: ms) (some (.ref x) :: ws.map some) H ∧ f ms = some b ∧ b.pre ∧
  (∀ as fs H', Rel B [.dob x C dx as fs] [some (.ref x)] H' → b.fl fs → Q .non H') ∧ (∀ cls d xd H', Rel B [] [] H' → XDat B [] [] H' d xd → b.xp cls xd → E cls d H')
section
variable {X : XC} {ρ : Env} {Q : M → Env → Prop} {t : TA} {f : List M → Option BrI} {C : Addr} {Ew : XK}
end
/-! ### lending, where an own object comes back -/
end Pl

set_option Elab.async false
set_option linter.all false
set_option maxRecDepth 100000
set_option maxHeartbeats 4000000
/-! Rg: `is` of truths; one cover less. -/
namespace Pl
open PySem L2 Gx PySem.Spec PyProof.Rows
def rIsB : R2 := fun x y H Q => ∃ a b, x = .bl a ∧ y = .bl b ∧ Q (.bl (decide (a = b))) H
def rNotB : R2 := fun x y H Q => ∃ a b, x = .bl a ∧ y = .bl b ∧ Q (.bl (!decide (a = b))) H
section
variable {X : Cx}
end
theorem cov_nodup {rs : List Nat} (n : Nat) : (covL rs n).Pairwise plt := by
  unfold covL
  refine List.pairwise_flatMap.mpr ⟨fun a _ => List.pairwise_map.mpr (((bitsL_asc _).filter _).filter _ |>.imp fun h => .inr ⟨rfl, by show (_ : Int) < _; omega⟩), List.pairwise_lt_range.imp fun {u v} h x hx y hy => ?_⟩
  obtain ⟨_, _, rfl⟩ := List.mem_map.mp hx
  obtain ⟨_, _, rfl⟩ := List.mem_map.mp hy
  exact .inl (by show (_ : Int) < _; omega)
end Pl

set_option Elab.async false
set_option linter.all false
set_option maxRecDepth 100000
set_option maxHeartbeats 4000000
/-! Rh: a tuple of four that ends with an own list. -/
namespace Pl
open PySem L2 Gx PySem.Spec PyProof.Rows
section
variable {X : XC} {ρ : Env} {ta tb tc td : TE}
end
/-! ### isinstance of the exception in hand, four to six classes -/
section
variable {X : XC} {ρ : Env} {QE : M → Env → Prop} {K : PySem.W.Frag} {a D : Addr} {d : Option Addr}
end
end Pl

set_option Elab.async false
set_option linter.all false
set_option maxRecDepth 100000
set_option maxHeartbeats 4000000
/-! Ri: own __contains__; is a pair a key; a swap written as a dict, asked with get. -/
namespace Gx
open PySem L2 PySem.Spec PyProof.Rows
section
variable {X : Cx} {k : Nat} {f C : Addr} {fd : FuncData} {sp : Sp}
def rNinI (C : Addr) (sp : Sp) : R2 := fun x y H Q => ∃ (a dx : Addr) (fs : List (Str × V)), y = .ref a ∧ H a = some (.ins C dx fs) ∧ sp [.ref a, x] H (fun v H' => ∃ b : Bool, v = .bl b ∧ Q (.bl (!b)) H') E0
theorem op_ninI {nm : Str} (me : Meth X.K C "__contains__" f) (F : FnOk X.prog X.w X.K X.mg X.base CX0 k f fd ["self", nm] sp) (hr : Room k X.A) (hb : Binds X.K fd ["self", nm] []) : OpR X (compareOp .NotIn) (rNinI C sp) := by
  intro pins s σ H x y u v Q I rx ry h
  obtain ⟨a, dx, fs, rfl, ea, h⟩ := h
  obtain rfl : v = Value.ref a := ry
  obtain ⟨mA, O, _, _, _, _⟩ := ins_get I.hok ea
  obtain ⟨od, J, _⟩ := O.look
  refine wpAny_bind ?_
  unfold contains
  refine wpAny_holding (wpAny_bind (wpAny_bind (J.type.here ((PySem.W.looks_findIn I.kIn me.at_).here ?_))))
  rw [if_neg (by simp)]
  refine wpAny_bind (PySem.W.unlessNone_K I.kIn J me.at_ me.fn (wpAny_call (codeAny_mono (F.run X.A X.stack s H ⟨[.ref a, u], []⟩ [.ref a, u] [.ref a, x] (fun v H' => ∃ b : Bool, v = .bl b ∧ Q (.bl (!b)) H') E0 hr I.env0 (by have := hb s [.ref a, u] I.kIn rfl; exact this) (.cons rfl (.cons rx .nil)) h) fun r s' hq => ?_)))
  rcases r with er | fl
  · exact hq.elim
  · cases fl with
    | ret u2 =>
      obtain ⟨v, H', I2, rv, b, rfl, q⟩ := I.after hq
      obtain rfl : u2 = Value.bool b := rv
      exact wpAny_truthy_bool (wpAny_pure ⟨.bl (!b), H', I2, rfl, q⟩)
    | next => exact hq.elim
    | brk => exact hq.elim
    | cont => exact hq.elim
end
end Gx
namespace Pl
open PySem L2 Gx PySem.Spec PyProof.Rows
section
variable {K : PySem.W.Frag} {C : Addr} {ρ : Env} {Q : M → Prop} {g : List M → Option Br}
theorem v_ninI {fs : List (Str × E)} {e : E} (k : ∃ b, g [.sh (obE C fs), .sh e] = some b ∧ b.pre ∧ (∀ cls xd, ¬ b.xp cls xd) ∧ ∀ m, b.post m → ∃ t, m = .sh (.bl t) ∧ Q (.sh (.bl (!t)))) : p2 (rNinI C (spC (ctF g))) (.sh e) (.sh (obE C fs)) Q := fun B ρ σ H x y R r f => by
  obtain ⟨b, h1, h2, h3, h4⟩ := k
  have r := r.swap
  obtain ⟨a, dx, fv, rfl, ea, _⟩ := obE_at r
  refine ⟨a, dx, fv, rfl, ea, ?_⟩
  exact spC_use (ms := [.sh (obE C fs), .sh e]) (vs := [.ref a, x]) rfl r ⟨b, h1, h2⟩ (fun v m H' r' ⟨b', h5, hq⟩ => by
    rw [h1] at h5
    cases h5
    obtain ⟨t, rfl, q⟩ := h4 m hq
    obtain rfl := r'.bl
    exact ⟨t, rfl, f _ _ H' (r'.tail.push (e := .bl (!t)) rfl) q⟩) fun cls d xd H' _ _ ⟨b', h5, q⟩ => by
    rw [h1] at h5; cases h5; exact (h3 cls xd q).elim
end
/-! ### is a pair a key -/
theorem dE_any {e : E} {ks : List (Int × Int)} (p : Int × Int) : ((dE e ks).map (·.1)).any (fun x => decide (x = keyP p)) = decide (p ∈ ks) := by
  unfold dE
  rw [List.map_map, List.any_map, Bool.eq_iff_iff, List.any_eq_true, decide_eq_true_iff]
  constructor
  · rintro ⟨q, hq, h⟩
    rw [← keyP_inj (of_decide_eq_true h)]
    exact hq
  · exact fun h => ⟨p, h, decide_eq_true rfl⟩
section
variable {X : XC} {ρ : Env} {Q : M → Env → Prop} {ty td tx : TE}
theorem dt_some {H : Hp} {ks : List (Int × Int)} {e : E} {kvs : List (List L2.Key × V)} (h : EvT H kvs (dE e ks)) (p : Int × Int) : (valV kvs (keyP p)).isSome = decide (p ∈ ks) := by
  rw [← valV_any, any_keys, h.keys, dE_any]
theorem p_inDt (k : pE X ty ρ fun m ρ1 => ∃ p, m.frz = .sh (prE p) ∧ pE X td ρ1 fun m2 ρ2 => ∃ e ks, m2.frz = .sh (.dit (dE e ks)) ∧ Q (.sh (.bl (decide (p ∈ ks)))) ρ2) : pE X (tDIn ty td) ρ Q := fun B σ H R rel x f =>
  k B σ H _ rel x fun v m ρ1 H1 r1 ⟨p, em, q1⟩ => by
    have r1 := r1.frz
    rw [em] at r1
    refine q1 _ σ H1 _ (Rel.hide (ρf := [.sh (prE p)]) (σf := [some v]) r1 rfl) (XOk.hide (ρf := [.sh (prE p)]) (σf := [some v]) x r1 rfl) fun w m2 ρ2 H2 r2 ⟨e, ks, em2, q⟩ => ?_
    have r2 := r2.frz
    rw [em2] at r2
    have r3 : Rel B (.sh (prE p) :: .sh (.dit (dE e ks)) :: ρ2) (some v :: some w :: σ) H2 := Rel.unhide (ρf := [.sh (prE p)]) (σf := [some v]) r1 rfl r2
    obtain ⟨t, vs, rfl, g1, _, g2⟩ := r3.val
    obtain rfl := keys_of (kk := keyP p) g2
    obtain ⟨d, kvs, rfl, h1, _, h2⟩ := r3.tail.val
    refine ⟨d, _, rfl, DGet.t (wos_some h1).2 (wos_some g1).2, ?_⟩
    rw [dt_some h2]
    exact f _ _ ρ2 H2 (r3.tail.tail.push (e := .bl _) rfl) q
theorem p_ninDt (k : pE X ty ρ fun m ρ1 => ∃ p, m.frz = .sh (prE p) ∧ pE X td ρ1 fun m2 ρ2 => ∃ e ks, m2.frz = .sh (.dit (dE e ks)) ∧ Q (.sh (.bl (!decide (p ∈ ks)))) ρ2) : pE X (tDNotIn ty td) ρ Q := fun B σ H R rel x f =>
  k B σ H _ rel x fun v m ρ1 H1 r1 ⟨p, em, q1⟩ => by
    have r1 := r1.frz
    rw [em] at r1
    refine q1 _ σ H1 _ (Rel.hide (ρf := [.sh (prE p)]) (σf := [some v]) r1 rfl) (XOk.hide (ρf := [.sh (prE p)]) (σf := [some v]) x r1 rfl) fun w m2 ρ2 H2 r2 ⟨e, ks, em2, q⟩ => ?_
    have r2 := r2.frz
    rw [em2] at r2
    have r3 : Rel B (.sh (prE p) :: .sh (.dit (dE e ks)) :: ρ2) (some v :: some w :: σ) H2 := Rel.unhide (ρf := [.sh (prE p)]) (σf := [some v]) r1 rfl r2
    obtain ⟨t, vs, rfl, g1, _, g2⟩ := r3.val
    obtain rfl := keys_of (kk := keyP p) g2
    obtain ⟨d, kvs, rfl, h1, _, h2⟩ := r3.tail.val
    refine ⟨d, _, rfl, DGet.t (wos_some h1).2 (wos_some g1).2, ?_⟩
    rw [dt_some h2]
    exact f _ _ ρ2 H2 (r3.tail.tail.push (e := .bl _) rfl) q
/-- d.get(k, x) -/
theorem p_dget2 (k : pE X td ρ fun m ρ1 => ∃ ps, m.frz = .sh (.dic ps) ∧ pE X ty ρ1 fun m2 ρ2 => ∃ kk, m2.frz = .sh (keyE kk) ∧ pE X tx ρ2 fun m3 ρ3 => ∃ e, m3.frz = .sh e ∧ Q (.sh ((keyAt ps kk).getD e)) ρ3) : pE X (tDGet2 td ty tx) ρ Q := fun B σ H R rel x f =>
  k B σ H _ rel x fun v m ρ1 H1 r1 ⟨ps, em, q1⟩ => by
    have r1 := r1.frz
    rw [em] at r1
    obtain ⟨d, kvs, rfl, h1, _, _⟩ := r1.val
    refine ⟨d, rfl, .inl ⟨kvs, .inl (wos_some h1).2⟩, q1 _ σ H1 _ (Rel.hide (ρf := [.sh (.dic ps)]) (σf := [some (.ref d)]) r1 rfl) (XOk.hide (ρf := [.sh (.dic ps)]) (σf := [some (.ref d)]) x r1 rfl) fun w m2 ρ2 H2 r2 ⟨kk, em2, q2⟩ => ?_⟩
    have r2 := r2.frz
    rw [em2] at r2
    have r2 : Rel B (.sh (.dic ps) :: .sh (keyE kk) :: ρ2) (some (.ref d) :: some w :: σ) H2 := Rel.unhide (ρf := [.sh (.dic ps)]) (σf := [some (.ref d)]) r1 rfl r2
    refine q2 _ σ H2 _ (Rel.hide (ρf := [.sh (.dic ps), .sh (keyE kk)]) (σf := [some (.ref d), some w]) r2 rfl) (XOk.hide (ρf := [.sh (.dic ps), .sh (keyE kk)]) (σf := [some (.ref d), some w]) x r2 rfl) fun z m3 ρ3 H3 r3 ⟨e, em3, q⟩ => ?_
    have r3 := r3.frz
    rw [em3] at r3
    have r4 : Rel B (.sh (.dic ps) :: .sh (keyE kk) :: .sh e :: ρ3) (some (.ref d) :: some w :: some z :: σ) H3 := Rel.unhide (ρf := [.sh (.dic ps), .sh (keyE kk)]) (σf := [some (.ref d), some w]) r2 rfl r3
    obtain ⟨d2, kvs2, e2, h2, _, h3⟩ := r4.val
    cases e2
    obtain rfl := keyE_of r4.tail.val
    refine ⟨_, DGet.k (k := kk) (wos_some h2).2, ?_⟩
    rcases EvK.val kk h3 with ⟨z1, z2⟩ | ⟨w2, e', g1, g2, g3⟩
    · rw [z1]
      rw [z2] at q
      exact f _ _ ρ3 H3 r4.tail.tail q
    · rw [g1]
      rw [g2] at q
      exact f _ _ ρ3 H3 (r4.tail.tail.tail.push g3) q
/-- {u: v, v: u} -/
def swE (a b : Int) : List (L2.Key × E) := if a = b then [(.inl a, .int a)] else [(.inl a, .int b), (.inl b, .int a)]
theorem sw_get (a b x : Int) : (keyAt (swE a b) (.inl x)).getD (.int x) = .int (if x = a then b else if x = b then a else x) := by
  unfold swE
  by_cases hab : a = b
  · subst hab
    rw [if_pos rfl]
    by_cases hx : x = a
    · subst hx
      rw [if_pos rfl]
      simp [keyAt]
    · rw [if_neg hx, if_neg hx]
      have : ¬ a = x := fun h => hx h.symm
      simp [keyAt, this]
  · rw [if_neg hab]
    by_cases hx : x = a
    · subst hx
      rw [if_pos rfl]
      simp [keyAt]
    · rw [if_neg hx]
      have h1 : ¬ a = x := fun h => hx h.symm
      by_cases hy : x = b
      · subst hy
        rw [if_pos rfl]
        simp [keyAt, h1]
      · rw [if_neg hy]
        have h2 : ¬ b = x := fun h => hy h.symm
        simp [keyAt, h1, h2]
theorem p_dispSw {i j : Nat} {a b : Int} (h1 : ρ[i]? = some (.sh (.int a))) (h2 : ρ[j]? = some (.sh (.int b))) (k : Q (.od (swE a b)) ρ) : pE X (tDisp [(tVar i, tVar j), (tVar j, tVar i)]) ρ Q := fun B σ H R r x f => fun p hp => by
  have r1 : Rel B (.od [] :: ρ) (some (.ref p) :: σ) (upd H p (.dK [])) := r.pushD (es := []) hp (Nat.zero_le _) rfl
  obtain ⟨y1, g1, r2⟩ := r.read h1
  obtain ⟨y2, g2, r3⟩ := r.read h2
  obtain rfl := r2.int
  obtain rfl := r3.int
  refine ⟨_, g1, _, g2, _, g2, _, g1, upd_same, [(.inl a, .int b), (.inl b, .int a)], rfl, (show (2 : Nat) ≤ 15 by decide), ?_⟩
  have hk : EvK (wos (owns (.od [] :: ρ) (some (.ref p) :: σ) ++ B.O1) (upd H p (.dK []))) (mergeK [] [(.inl a, V.int b), (.inl b, .int a)]) (swE a b) ∧ (mergeK [] [((.inl a : L2.Key), V.int b), (.inl b, .int a)]).length ≤ sizeLine := by
    unfold swE
    by_cases hab : a = b
    · subst hab
      have e : mergeK [] [((.inl a : L2.Key), V.int a), (.inl a, .int a)] = [(.inl a, .int a)] := by simp [mergeK, putK]
      rw [e, if_pos rfl]
      exact ⟨⟨_, _, rfl, rfl, rfl⟩, (show (1 : Nat) ≤ sizeLine by rw [sizeLine_eq]; decide)⟩
    · have h : ¬ (Sum.inl a : L2.Key) = Sum.inl b := fun h => hab (Sum.inl.inj h)
      have e : mergeK [] [((.inl a : L2.Key), V.int b), (.inl b, .int a)] = [(.inl a, .int b), (.inl b, .int a)] := by simp [mergeK, putK, hab]
      rw [e, if_neg hab]
      exact ⟨⟨_, _, rfl, rfl, _, _, rfl, rfl, rfl⟩, (show (2 : Nat) ≤ sizeLine by rw [sizeLine_eq]; decide)⟩
  exact f _ _ ρ _ ((r1.write (q := p) (m' := .od (swE a b)) (List.mem_cons_self ..) rfl ⟨p, _, rfl, upd_same, hk.2, hk.1⟩)) k
end
end Pl

set_option Elab.async false
set_option linter.all false
set_option maxRecDepth 100000
set_option maxHeartbeats 4000000
namespace Lk
open PySem L2 Gx Pl PyProof.Rows
theorem sc_BadWeb__init__ : FnScope ["self", "bad_at"] ["self", "bad_at"] (defScope s_BadWeb__init__) := ⟨rfl, rfl, rfl, by decide +kernel, rfl, by decide +kernel, by decide +kernel⟩
theorem sc_BadOrder__init__ : FnScope ["self", "bad_at"] ["self", "bad_at"] (defScope s_BadOrder__init__) := ⟨rfl, rfl, rfl, by decide +kernel, rfl, by decide +kernel, by decide +kernel⟩
theorem sc_TooMany__init__ : FnScope ["self", "most"] ["self", "most"] (defScope s_TooMany__init__) := ⟨rfl, rfl, rfl, by decide +kernel, rfl, by decide +kernel, by decide +kernel⟩
theorem sc_is_whole : FnScope ["value"] ["value"] (defScope s_is_whole) := ⟨rfl, rfl, rfl, by decide +kernel, rfl, by decide +kernel, by decide +kernel⟩
theorem sc_is_sequence : FnScope ["value"] ["value"] (defScope s_is_sequence) := ⟨rfl, rfl, rfl, by decide +kernel, rfl, by decide +kernel, by decide +kernel⟩
theorem sc_is_between : FnScope ["low", "high", "value"] ["low", "high", "value"] (defScope s_is_between) := ⟨rfl, rfl, rfl, by decide +kernel, rfl, by decide +kernel, by decide +kernel⟩
theorem sc_check_number : FnScope ["low", "high", "value"] ["low", "high", "value"] (defScope s_check_number) := ⟨rfl, rfl, rfl, by decide +kernel, rfl, by decide +kernel, by decide +kernel⟩
theorem sc_reach_of : FnScope ["size", "pairs", "reach", "a", "b", "pair"] ["size", "pairs"] (defScope s_reach_of) := ⟨rfl, rfl, rfl, by decide +kernel, rfl, by decide +kernel, by decide +kernel⟩
theorem sc_is_rising_pair : FnScope ["size", "value"] ["size", "value"] (defScope s_is_rising_pair) := ⟨rfl, rfl, rfl, by decide +kernel, rfl, by decide +kernel, by decide +kernel⟩
theorem sc_Order__init__ : FnScope ["self", "size", "pairs", "i", "pair"] ["self", "size", "pairs"] (defScope s_Order__init__) := ⟨rfl, rfl, rfl, by decide +kernel, rfl, by decide +kernel, by decide +kernel⟩
theorem sc_Order__len__ : FnScope ["self"] ["self"] (defScope s_Order__len__) := ⟨rfl, rfl, rfl, by decide +kernel, rfl, by decide +kernel, by decide +kernel⟩
theorem sc_Order__eq__ : FnScope ["self", "other"] ["self", "other"] (defScope s_Order__eq__) := ⟨rfl, rfl, rfl, by decide +kernel, rfl, by decide +kernel, by decide +kernel⟩
theorem sc_Order__ne__ : FnScope ["self", "other"] ["self", "other"] (defScope s_Order__ne__) := ⟨rfl, rfl, rfl, by decide +kernel, rfl, by decide +kernel, by decide +kernel⟩
theorem sc_Order_size : FnScope ["self"] ["self"] (defScope s_Order_size) := ⟨rfl, rfl, rfl, by decide +kernel, rfl, by decide +kernel, by decide +kernel⟩
theorem sc_things_in : FnScope ["bits", "thing"] ["bits"] (defScope s_things_in) := ⟨rfl, rfl, rfl, by decide +kernel, rfl, by decide +kernel, by decide +kernel⟩
theorem sc_next_above : FnScope ["reach", "a", "higher", "beyond", "b"] ["reach", "a"] (defScope s_next_above) := ⟨rfl, rfl, rfl, by decide +kernel, rfl, by decide +kernel, by decide +kernel⟩
theorem sc_Order_covers : FnScope ["self", "a", "b"] ["self"] (defScope s_Order_covers) := ⟨rfl, rfl, rfl, by decide +kernel, rfl, by decide +kernel, by decide +kernel⟩
theorem sc_check_thing : FnScope ["order", "thing"] ["order", "thing"] (defScope s_check_thing) := ⟨rfl, rfl, rfl, by decide +kernel, rfl, by decide +kernel, by decide +kernel⟩
theorem sc_Order_at_or_below : FnScope ["self", "a", "b"] ["self", "a", "b"] (defScope s_Order_at_or_below) := ⟨rfl, rfl, rfl, by decide +kernel, rfl, by decide +kernel, by decide +kernel⟩
theorem sc_check_order : FnScope ["order"] ["order"] (defScope s_check_order) := ⟨rfl, rfl, rfl, by decide +kernel, rfl, by decide +kernel, by decide +kernel⟩
theorem sc_is_place_pair : FnScope ["places", "value"] ["places", "value"] (defScope s_is_place_pair) := ⟨rfl, rfl, rfl, by decide +kernel, rfl, by decide +kernel, by decide +kernel⟩
theorem sc_Web__init__ : FnScope ["self", "places", "arrows", "known", "i", "arrow", "u", "v", "_"] ["self", "places", "arrows"] (defScope s_Web__init__) := ⟨rfl, rfl, rfl, by decide +kernel, rfl, by decide +kernel, by decide +kernel⟩
theorem sc_Web__len__ : FnScope ["self"] ["self"] (defScope s_Web__len__) := ⟨rfl, rfl, rfl, by decide +kernel, rfl, by decide +kernel, by decide +kernel⟩
theorem sc_Web__contains__ : FnScope ["self", "arrow"] ["self", "arrow"] (defScope s_Web__contains__) := ⟨rfl, rfl, rfl, by decide +kernel, rfl, by decide +kernel, by decide +kernel⟩
theorem sc_Web_places : FnScope ["self"] ["self"] (defScope s_Web_places) := ⟨rfl, rfl, rfl, by decide +kernel, rfl, by decide +kernel, by decide +kernel⟩
theorem sc_Web_arrows : FnScope ["self"] ["self"] (defScope s_Web_arrows) := ⟨rfl, rfl, rfl, by decide +kernel, rfl, by decide +kernel, by decide +kernel⟩
theorem sc_joins : FnScope ["order", "a", "b"] ["order", "a", "b"] (defScope s_joins) := ⟨rfl, rfl, rfl, by decide +kernel, rfl, by decide +kernel, by decide +kernel⟩
theorem sc_rule_arrows : FnScope ["order", "a", "b"] ["order"] (defScope s_rule_arrows) := ⟨rfl, rfl, rfl, by decide +kernel, rfl, by decide +kernel, by decide +kernel⟩
theorem sc_order_web : FnScope ["order"] ["order"] (defScope s_order_web) := ⟨rfl, rfl, rfl, by decide +kernel, rfl, by decide +kernel, by decide +kernel⟩
theorem sc_read_order : FnScope ["web", "b", "a"] ["web"] (defScope s_read_order) := ⟨rfl, rfl, rfl, by decide +kernel, rfl, by decide +kernel, by decide +kernel⟩
theorem sc_is_order_web : FnScope ["web"] ["web"] (defScope s_is_order_web) := ⟨rfl, rfl, rfl, by decide +kernel, rfl, by decide +kernel, by decide +kernel⟩
theorem sc_order_of_web : FnScope ["web"] ["web"] (defScope s_order_of_web) := ⟨rfl, rfl, rfl, by decide +kernel, rfl, by decide +kernel, by decide +kernel⟩
theorem sc_law_mix : FnScope ["value", "step", "first"] ["value", "step"] (defScope s_law_mix) := ⟨rfl, rfl, rfl, by decide +kernel, rfl, by decide +kernel, by decide +kernel⟩
theorem sc_law_store : FnScope ["script", "cell"] ["script"] (defScope s_law_store) := ⟨rfl, rfl, rfl, by decide +kernel, rfl, by decide +kernel, by decide +kernel⟩
theorem sc_law_take : FnScope ["store", "many", "cell", "step", "value", "size", "k", "told"] ["store", "many"] (defScope s_law_take) := ⟨rfl, rfl, rfl, by decide +kernel, rfl, by decide +kernel, by decide +kernel⟩
theorem sc_law_between : FnScope ["store", "low", "high"] ["store", "low", "high"] (defScope s_law_between) := ⟨rfl, rfl, rfl, by decide +kernel, rfl, by decide +kernel, by decide +kernel⟩
theorem sc_law_edge : FnScope ["store", "low", "high", "kind"] ["store", "low", "high"] (defScope s_law_edge) := ⟨rfl, rfl, rfl, by decide +kernel, rfl, by decide +kernel, by decide +kernel⟩
theorem sc_law_pick : FnScope ["store", "row"] ["store", "row"] (defScope s_law_pick) := ⟨rfl, rfl, rfl, by decide +kernel, rfl, by decide +kernel, by decide +kernel⟩
theorem sc_law_shuffled : FnScope ["store", "row", "rest", "out", "k"] ["store", "row"] (defScope s_law_shuffled) := ⟨rfl, rfl, rfl, by decide +kernel, rfl, by decide +kernel, by decide +kernel⟩
theorem sc_law_form : FnScope ["store", "row"] ["store", "row"] (defScope s_law_form) := ⟨rfl, rfl, rfl, by decide +kernel, rfl, by decide +kernel, by decide +kernel⟩
theorem sc_law_odd : FnScope ["store", "row"] ["store"] (defScope s_law_odd) := ⟨rfl, rfl, rfl, by decide +kernel, rfl, by decide +kernel, by decide +kernel⟩
theorem sc_law_far : FnScope ["store", "power", "k"] ["store"] (defScope s_law_far) := ⟨rfl, rfl, rfl, by decide +kernel, rfl, by decide +kernel, by decide +kernel⟩
theorem sc_law_any : FnScope ["store", "value", "rounds", "k", "kind"] ["store"] (defScope s_law_any) := ⟨rfl, rfl, rfl, by decide +kernel, rfl, by decide +kernel, by decide +kernel⟩
theorem sc_law_named_arrows : FnScope ["n", "kind", "arrows", "u", "ring", "v", "k"] ["n", "kind"] (defScope s_law_named_arrows) := ⟨rfl, rfl, rfl, by decide +kernel, rfl, by decide +kernel, by decide +kernel⟩
theorem sc_law_web : FnScope ["store", "most", "n", "kind", "share", "arrows", "u", "v"] ["store", "most"] (defScope s_law_web) := ⟨rfl, rfl, rfl, by decide +kernel, rfl, by decide +kernel, by decide +kernel⟩
theorem sc_law_pair_forms : FnScope ["store", "arrows", "row", "k", "pair"] ["store", "arrows"] (defScope s_law_pair_forms) := ⟨rfl, rfl, rfl, by decide +kernel, rfl, by decide +kernel, by decide +kernel⟩
theorem sc_law_order : FnScope ["store", "most", "size", "kind", "cut", "share", "pairs", "a", "b", "k"] ["store", "most"] (defScope s_law_order) := ⟨rfl, rfl, rfl, by decide +kernel, rfl, by decide +kernel, by decide +kernel⟩
theorem sc_law_below : FnScope ["size", "pairs", "below", "k", "a", "pair", "b"] ["size", "pairs"] (defScope s_law_below) := ⟨rfl, rfl, rfl, by decide +kernel, rfl, by decide +kernel, by decide +kernel⟩
theorem sc_law_covers : FnScope ["below", "covers", "a", "b", "c"] ["below"] (defScope s_law_covers) := ⟨rfl, rfl, rfl, by decide +kernel, rfl, by decide +kernel, by decide +kernel⟩
theorem sc_law_is_integer : FnScope ["value"] ["value"] (defScope s_law_is_integer) := ⟨rfl, rfl, rfl, by decide +kernel, rfl, by decide +kernel, by decide +kernel⟩
theorem sc_law_same : FnScope ["told", "due", "k"] ["told", "due"] (defScope s_law_same) := ⟨rfl, rfl, rfl, by decide +kernel, rfl, by decide +kernel, by decide +kernel⟩
theorem sc_law_order_arrows : FnScope ["below", "arrows", "a", "b"] ["below"] (defScope s_law_order_arrows) := ⟨rfl, rfl, rfl, by decide +kernel, rfl, by decide +kernel, by decide +kernel⟩
theorem sc_law_table_of : FnScope ["n", "arrows", "marks", "arrow", "below", "a", "b", "c"] ["n", "arrows"] (defScope s_law_table_of) := ⟨rfl, rfl, rfl, by decide +kernel, rfl, by decide +kernel, by decide +kernel⟩
theorem sc_law_toggled : FnScope ["arrows", "pair", "one"] ["arrows", "pair"] (defScope s_law_toggled) := ⟨rfl, rfl, rfl, by decide +kernel, rfl, by decide +kernel, by decide +kernel⟩
theorem sc_law_changed : FnScope ["store", "n", "arrows", "kind", "u", "v", "other", "swap", "one"] ["store", "n", "arrows"] (defScope s_law_changed) := ⟨rfl, rfl, rfl, by decide +kernel, rfl, by decide +kernel, by decide +kernel⟩
theorem sc_law_ask_web : FnScope ["order", "e"] ["order"] (defScope s_law_ask_web) := ⟨rfl, rfl, rfl, by decide +kernel, rfl, by decide +kernel, by decide +kernel⟩
theorem sc_law_ask_order : FnScope ["web", "e"] ["web"] (defScope s_law_ask_order) := ⟨rfl, rfl, rfl, by decide +kernel, rfl, by decide +kernel, by decide +kernel⟩
theorem sc_law_is_order : FnScope ["told", "below", "size", "a", "b"] ["told", "below"] (defScope s_law_is_order) := ⟨rfl, rfl, rfl, by decide +kernel, rfl, by decide +kernel, by decide +kernel⟩
theorem sc_law_is_web : FnScope ["told", "n", "arrows"] ["told", "n", "arrows"] (defScope s_law_is_web) := ⟨rfl, rfl, rfl, by decide +kernel, rfl, by decide +kernel, by decide +kernel⟩
theorem sc_law_answers : FnScope ["web", "n", "arrows", "order", "same", "table", "told"] ["web", "n", "arrows", "order", "same"] (defScope s_law_answers) := ⟨rfl, rfl, rfl, by decide +kernel, rfl, by decide +kernel, by decide +kernel⟩
theorem sc_law_odd_refused : FnScope ["odd", "web", "order", "one"] ["odd", "web", "order"] (defScope s_law_odd_refused) := ⟨rfl, rfl, rfl, by decide +kernel, rfl, by decide +kernel, by decide +kernel⟩
theorem sc_law : FnScope ["script", "store", "most", "case", "handed", "size", "below", "arrows", "order", "web", "changed", "other", "third", "same", "k"] ["script"] (defScope s_law) := ⟨rfl, rfl, rfl, by decide +kernel, rfl, by decide +kernel, by decide +kernel⟩
structure Ad where
  BadWeb__init__ : Addr
  BadOrder__init__ : Addr
  TooMany__init__ : Addr
  is_whole : Addr
  is_sequence : Addr
  is_between : Addr
  check_number : Addr
  reach_of : Addr
  is_rising_pair : Addr
  Order__init__ : Addr
  Order__len__ : Addr
  Order__eq__ : Addr
  Order__ne__ : Addr
  Order_size : Addr
  things_in : Addr
  next_above : Addr
  Order_covers : Addr
  check_thing : Addr
  Order_at_or_below : Addr
  check_order : Addr
  is_place_pair : Addr
  Web__init__ : Addr
  Web__len__ : Addr
  Web__contains__ : Addr
  Web_places : Addr
  Web_arrows : Addr
  joins : Addr
  rule_arrows : Addr
  order_web : Addr
  read_order : Addr
  is_order_web : Addr
  order_of_web : Addr
  law_mix : Addr
  law_store : Addr
  law_take : Addr
  law_between : Addr
  law_edge : Addr
  law_pick : Addr
  law_shuffled : Addr
  law_form : Addr
  law_odd : Addr
  law_far : Addr
  law_any : Addr
  law_named_arrows : Addr
  law_web : Addr
  law_pair_forms : Addr
  law_order : Addr
  law_below : Addr
  law_covers : Addr
  law_is_integer : Addr
  law_same : Addr
  law_order_arrows : Addr
  law_table_of : Addr
  law_toggled : Addr
  law_changed : Addr
  law_ask_web : Addr
  law_ask_order : Addr
  law_is_order : Addr
  law_is_web : Addr
  law_answers : Addr
  law_odd_refused : Addr
  law : Addr
  BadNumber : Addr
  BadOrder : Addr
  BadWeb : Addr
  HueError : Addr
  Order : Addr
  TooMany : Addr
  Web : Addr
  df_Order__init___0 : Addr
  df_Web__init___0 : Addr
  po_Order_covers : Addr
  po_Order_size : Addr
  po_Web_arrows : Addr
  po_Web_places : Addr
structure Fd where
  BadWeb__init__ : FuncData
  BadOrder__init__ : FuncData
  TooMany__init__ : FuncData
  is_whole : FuncData
  is_sequence : FuncData
  is_between : FuncData
  check_number : FuncData
  reach_of : FuncData
  is_rising_pair : FuncData
  Order__init__ : FuncData
  Order__len__ : FuncData
  Order__eq__ : FuncData
  Order__ne__ : FuncData
  Order_size : FuncData
  things_in : FuncData
  next_above : FuncData
  Order_covers : FuncData
  check_thing : FuncData
  Order_at_or_below : FuncData
  check_order : FuncData
  is_place_pair : FuncData
  Web__init__ : FuncData
  Web__len__ : FuncData
  Web__contains__ : FuncData
  Web_places : FuncData
  Web_arrows : FuncData
  joins : FuncData
  rule_arrows : FuncData
  order_web : FuncData
  read_order : FuncData
  is_order_web : FuncData
  order_of_web : FuncData
  law_mix : FuncData
  law_store : FuncData
  law_take : FuncData
  law_between : FuncData
  law_edge : FuncData
  law_pick : FuncData
  law_shuffled : FuncData
  law_form : FuncData
  law_odd : FuncData
  law_far : FuncData
  law_any : FuncData
  law_named_arrows : FuncData
  law_web : FuncData
  law_pair_forms : FuncData
  law_order : FuncData
  law_below : FuncData
  law_covers : FuncData
  law_is_integer : FuncData
  law_same : FuncData
  law_order_arrows : FuncData
  law_table_of : FuncData
  law_toggled : FuncData
  law_changed : FuncData
  law_ask_web : FuncData
  law_ask_order : FuncData
  law_is_order : FuncData
  law_is_web : FuncData
  law_answers : FuncData
  law_odd_refused : FuncData
  law : FuncData
structure Txt (K : PySem.W.Frag) (mg : Str → Option Value) (a : Ad) (d : Fd) : Prop where
  F_BadWeb__init__ : Fun K "__init__" "BadWeb.__init__" s_BadWeb__init__ a.BadWeb__init__ d.BadWeb__init__
  b_BadWeb__init__ : Binds K d.BadWeb__init__ ["self", "bad_at"] []
  F_BadOrder__init__ : Fun K "__init__" "BadOrder.__init__" s_BadOrder__init__ a.BadOrder__init__ d.BadOrder__init__
  b_BadOrder__init__ : Binds K d.BadOrder__init__ ["self", "bad_at"] []
  F_TooMany__init__ : Fun K "__init__" "TooMany.__init__" s_TooMany__init__ a.TooMany__init__ d.TooMany__init__
  b_TooMany__init__ : Binds K d.TooMany__init__ ["self", "most"] []
  F_is_whole : Fun K "is_whole" "is_whole" s_is_whole a.is_whole d.is_whole
  b_is_whole : Binds K d.is_whole ["value"] []
  g_is_whole : mg "is_whole" = some (.ref a.is_whole)
  F_is_sequence : Fun K "is_sequence" "is_sequence" s_is_sequence a.is_sequence d.is_sequence
  b_is_sequence : Binds K d.is_sequence ["value"] []
  g_is_sequence : mg "is_sequence" = some (.ref a.is_sequence)
  F_is_between : Fun K "is_between" "is_between" s_is_between a.is_between d.is_between
  b_is_between : Binds K d.is_between ["low", "high", "value"] []
  g_is_between : mg "is_between" = some (.ref a.is_between)
  F_check_number : Fun K "check_number" "check_number" s_check_number a.check_number d.check_number
  b_check_number : Binds K d.check_number ["low", "high", "value"] []
  g_check_number : mg "check_number" = some (.ref a.check_number)
  F_reach_of : Fun K "_reach_of" "_reach_of" s_reach_of a.reach_of d.reach_of
  b_reach_of : Binds K d.reach_of ["size", "pairs"] []
  g_reach_of : mg "_reach_of" = some (.ref a.reach_of)
  F_is_rising_pair : Fun K "_is_rising_pair" "_is_rising_pair" s_is_rising_pair a.is_rising_pair d.is_rising_pair
  b_is_rising_pair : Binds K d.is_rising_pair ["size", "value"] []
  g_is_rising_pair : mg "_is_rising_pair" = some (.ref a.is_rising_pair)
  F_Order__init__ : FunD K "__init__" "Order.__init__" (defArgs s_Order__init__) (defBody s_Order__init__) (defScope s_Order__init__) [.ref a.df_Order__init___0] [] a.Order__init__ d.Order__init__
  em_Order__init___0 : Emp K a.df_Order__init___0
  F_Order__len__ : Fun K "__len__" "Order.__len__" s_Order__len__ a.Order__len__ d.Order__len__
  b_Order__len__ : Binds K d.Order__len__ ["self"] []
  F_Order__eq__ : Fun K "__eq__" "Order.__eq__" s_Order__eq__ a.Order__eq__ d.Order__eq__
  b_Order__eq__ : Binds K d.Order__eq__ ["self", "other"] []
  F_Order__ne__ : Fun K "__ne__" "Order.__ne__" s_Order__ne__ a.Order__ne__ d.Order__ne__
  b_Order__ne__ : Binds K d.Order__ne__ ["self", "other"] []
  F_Order_size : Fun K "size" "Order.size" s_Order_size a.Order_size d.Order_size
  b_Order_size : Binds K d.Order_size ["self"] []
  F_things_in : Fun K "things_in" "things_in" s_things_in a.things_in d.things_in
  b_things_in : Binds K d.things_in ["bits"] []
  g_things_in : mg "things_in" = some (.ref a.things_in)
  F_next_above : Fun K "_next_above" "_next_above" s_next_above a.next_above d.next_above
  b_next_above : Binds K d.next_above ["reach", "a"] []
  g_next_above : mg "_next_above" = some (.ref a.next_above)
  F_Order_covers : Fun K "covers" "Order.covers" s_Order_covers a.Order_covers d.Order_covers
  b_Order_covers : Binds K d.Order_covers ["self"] []
  F_check_thing : Fun K "check_thing" "check_thing" s_check_thing a.check_thing d.check_thing
  b_check_thing : Binds K d.check_thing ["order", "thing"] []
  g_check_thing : mg "check_thing" = some (.ref a.check_thing)
  F_Order_at_or_below : Fun K "at_or_below" "Order.at_or_below" s_Order_at_or_below a.Order_at_or_below d.Order_at_or_below
  b_Order_at_or_below : Binds K d.Order_at_or_below ["self", "a", "b"] []
  F_check_order : Fun K "check_order" "check_order" s_check_order a.check_order d.check_order
  b_check_order : Binds K d.check_order ["order"] []
  g_check_order : mg "check_order" = some (.ref a.check_order)
  F_is_place_pair : Fun K "_is_place_pair" "_is_place_pair" s_is_place_pair a.is_place_pair d.is_place_pair
  b_is_place_pair : Binds K d.is_place_pair ["places", "value"] []
  g_is_place_pair : mg "_is_place_pair" = some (.ref a.is_place_pair)
  F_Web__init__ : FunD K "__init__" "Web.__init__" (defArgs s_Web__init__) (defBody s_Web__init__) (defScope s_Web__init__) [.ref a.df_Web__init___0] [] a.Web__init__ d.Web__init__
  em_Web__init___0 : Emp K a.df_Web__init___0
  F_Web__len__ : Fun K "__len__" "Web.__len__" s_Web__len__ a.Web__len__ d.Web__len__
  b_Web__len__ : Binds K d.Web__len__ ["self"] []
  F_Web__contains__ : Fun K "__contains__" "Web.__contains__" s_Web__contains__ a.Web__contains__ d.Web__contains__
  b_Web__contains__ : Binds K d.Web__contains__ ["self", "arrow"] []
  F_Web_places : Fun K "places" "Web.places" s_Web_places a.Web_places d.Web_places
  b_Web_places : Binds K d.Web_places ["self"] []
  F_Web_arrows : Fun K "arrows" "Web.arrows" s_Web_arrows a.Web_arrows d.Web_arrows
  b_Web_arrows : Binds K d.Web_arrows ["self"] []
  F_joins : Fun K "joins" "joins" s_joins a.joins d.joins
  b_joins : Binds K d.joins ["order", "a", "b"] []
  g_joins : mg "joins" = some (.ref a.joins)
  F_rule_arrows : Fun K "_rule_arrows" "_rule_arrows" s_rule_arrows a.rule_arrows d.rule_arrows
  b_rule_arrows : Binds K d.rule_arrows ["order"] []
  g_rule_arrows : mg "_rule_arrows" = some (.ref a.rule_arrows)
  F_order_web : Fun K "order_web" "order_web" s_order_web a.order_web d.order_web
  b_order_web : Binds K d.order_web ["order"] []
  g_order_web : mg "order_web" = some (.ref a.order_web)
  F_read_order : Fun K "_read_order" "_read_order" s_read_order a.read_order d.read_order
  b_read_order : Binds K d.read_order ["web"] []
  g_read_order : mg "_read_order" = some (.ref a.read_order)
  F_is_order_web : Fun K "is_order_web" "is_order_web" s_is_order_web a.is_order_web d.is_order_web
  b_is_order_web : Binds K d.is_order_web ["web"] []
  g_is_order_web : mg "is_order_web" = some (.ref a.is_order_web)
  F_order_of_web : Fun K "order_of_web" "order_of_web" s_order_of_web a.order_of_web d.order_of_web
  b_order_of_web : Binds K d.order_of_web ["web"] []
  g_order_of_web : mg "order_of_web" = some (.ref a.order_of_web)
  F_law_mix : Fun K "_law_mix" "_law_mix" s_law_mix a.law_mix d.law_mix
  b_law_mix : Binds K d.law_mix ["value", "step"] []
  g_law_mix : mg "_law_mix" = some (.ref a.law_mix)
  F_law_store : Fun K "_law_store" "_law_store" s_law_store a.law_store d.law_store
  b_law_store : Binds K d.law_store ["script"] []
  g_law_store : mg "_law_store" = some (.ref a.law_store)
  F_law_take : Fun K "_law_take" "_law_take" s_law_take a.law_take d.law_take
  b_law_take : Binds K d.law_take ["store", "many"] []
  g_law_take : mg "_law_take" = some (.ref a.law_take)
  F_law_between : Fun K "_law_between" "_law_between" s_law_between a.law_between d.law_between
  b_law_between : Binds K d.law_between ["store", "low", "high"] []
  g_law_between : mg "_law_between" = some (.ref a.law_between)
  F_law_edge : Fun K "_law_edge" "_law_edge" s_law_edge a.law_edge d.law_edge
  b_law_edge : Binds K d.law_edge ["store", "low", "high"] []
  g_law_edge : mg "_law_edge" = some (.ref a.law_edge)
  F_law_pick : Fun K "_law_pick" "_law_pick" s_law_pick a.law_pick d.law_pick
  b_law_pick : Binds K d.law_pick ["store", "row"] []
  g_law_pick : mg "_law_pick" = some (.ref a.law_pick)
  F_law_shuffled : Fun K "_law_shuffled" "_law_shuffled" s_law_shuffled a.law_shuffled d.law_shuffled
  b_law_shuffled : Binds K d.law_shuffled ["store", "row"] []
  g_law_shuffled : mg "_law_shuffled" = some (.ref a.law_shuffled)
  F_law_form : Fun K "_law_form" "_law_form" s_law_form a.law_form d.law_form
  b_law_form : Binds K d.law_form ["store", "row"] []
  g_law_form : mg "_law_form" = some (.ref a.law_form)
  F_law_odd : Fun K "_law_odd" "_law_odd" s_law_odd a.law_odd d.law_odd
  b_law_odd : Binds K d.law_odd ["store"] []
  g_law_odd : mg "_law_odd" = some (.ref a.law_odd)
  F_law_far : Fun K "_law_far" "_law_far" s_law_far a.law_far d.law_far
  b_law_far : Binds K d.law_far ["store"] []
  g_law_far : mg "_law_far" = some (.ref a.law_far)
  F_law_any : Fun K "_law_any" "_law_any" s_law_any a.law_any d.law_any
  b_law_any : Binds K d.law_any ["store"] []
  g_law_any : mg "_law_any" = some (.ref a.law_any)
  F_law_named_arrows : Fun K "_law_named_arrows" "_law_named_arrows" s_law_named_arrows a.law_named_arrows d.law_named_arrows
  b_law_named_arrows : Binds K d.law_named_arrows ["n", "kind"] []
  g_law_named_arrows : mg "_law_named_arrows" = some (.ref a.law_named_arrows)
  F_law_web : Fun K "_law_web" "_law_web" s_law_web a.law_web d.law_web
  b_law_web : Binds K d.law_web ["store", "most"] []
  g_law_web : mg "_law_web" = some (.ref a.law_web)
  F_law_pair_forms : Fun K "_law_pair_forms" "_law_pair_forms" s_law_pair_forms a.law_pair_forms d.law_pair_forms
  b_law_pair_forms : Binds K d.law_pair_forms ["store", "arrows"] []
  g_law_pair_forms : mg "_law_pair_forms" = some (.ref a.law_pair_forms)
  F_law_order : Fun K "_law_order" "_law_order" s_law_order a.law_order d.law_order
  b_law_order : Binds K d.law_order ["store", "most"] []
  g_law_order : mg "_law_order" = some (.ref a.law_order)
  F_law_below : Fun K "_law_below" "_law_below" s_law_below a.law_below d.law_below
  b_law_below : Binds K d.law_below ["size", "pairs"] []
  g_law_below : mg "_law_below" = some (.ref a.law_below)
  F_law_covers : Fun K "_law_covers" "_law_covers" s_law_covers a.law_covers d.law_covers
  b_law_covers : Binds K d.law_covers ["below"] []
  g_law_covers : mg "_law_covers" = some (.ref a.law_covers)
  F_law_is_integer : Fun K "_law_is_integer" "_law_is_integer" s_law_is_integer a.law_is_integer d.law_is_integer
  b_law_is_integer : Binds K d.law_is_integer ["value"] []
  g_law_is_integer : mg "_law_is_integer" = some (.ref a.law_is_integer)
  F_law_same : Fun K "_law_same" "_law_same" s_law_same a.law_same d.law_same
  b_law_same : Binds K d.law_same ["told", "due"] []
  g_law_same : mg "_law_same" = some (.ref a.law_same)
  F_law_order_arrows : Fun K "_law_order_arrows" "_law_order_arrows" s_law_order_arrows a.law_order_arrows d.law_order_arrows
  b_law_order_arrows : Binds K d.law_order_arrows ["below"] []
  g_law_order_arrows : mg "_law_order_arrows" = some (.ref a.law_order_arrows)
  F_law_table_of : Fun K "_law_table_of" "_law_table_of" s_law_table_of a.law_table_of d.law_table_of
  b_law_table_of : Binds K d.law_table_of ["n", "arrows"] []
  g_law_table_of : mg "_law_table_of" = some (.ref a.law_table_of)
  F_law_toggled : Fun K "_law_toggled" "_law_toggled" s_law_toggled a.law_toggled d.law_toggled
  b_law_toggled : Binds K d.law_toggled ["arrows", "pair"] []
  g_law_toggled : mg "_law_toggled" = some (.ref a.law_toggled)
  F_law_changed : Fun K "_law_changed" "_law_changed" s_law_changed a.law_changed d.law_changed
  b_law_changed : Binds K d.law_changed ["store", "n", "arrows"] []
  g_law_changed : mg "_law_changed" = some (.ref a.law_changed)
  F_law_ask_web : Fun K "_law_ask_web" "_law_ask_web" s_law_ask_web a.law_ask_web d.law_ask_web
  b_law_ask_web : Binds K d.law_ask_web ["order"] []
  g_law_ask_web : mg "_law_ask_web" = some (.ref a.law_ask_web)
  F_law_ask_order : Fun K "_law_ask_order" "_law_ask_order" s_law_ask_order a.law_ask_order d.law_ask_order
  b_law_ask_order : Binds K d.law_ask_order ["web"] []
  g_law_ask_order : mg "_law_ask_order" = some (.ref a.law_ask_order)
  F_law_is_order : Fun K "_law_is_order" "_law_is_order" s_law_is_order a.law_is_order d.law_is_order
  b_law_is_order : Binds K d.law_is_order ["told", "below"] []
  g_law_is_order : mg "_law_is_order" = some (.ref a.law_is_order)
  F_law_is_web : Fun K "_law_is_web" "_law_is_web" s_law_is_web a.law_is_web d.law_is_web
  b_law_is_web : Binds K d.law_is_web ["told", "n", "arrows"] []
  g_law_is_web : mg "_law_is_web" = some (.ref a.law_is_web)
  F_law_answers : Fun K "_law_answers" "_law_answers" s_law_answers a.law_answers d.law_answers
  b_law_answers : Binds K d.law_answers ["web", "n", "arrows", "order", "same"] []
  g_law_answers : mg "_law_answers" = some (.ref a.law_answers)
  F_law_odd_refused : Fun K "_law_odd_refused" "_law_odd_refused" s_law_odd_refused a.law_odd_refused d.law_odd_refused
  b_law_odd_refused : Binds K d.law_odd_refused ["odd", "web", "order"] []
  g_law_odd_refused : mg "_law_odd_refused" = some (.ref a.law_odd_refused)
  F_law : Fun K "law" "law" s_law a.law d.law
  b_law : Binds K d.law ["script"] []
  g_law : mg "law" = some (.ref a.law)
  c_MOST_ARROWS : ∃ t, mg "MOST_ARROWS" = some (.int 2000 t)
  c_MOST_PLACES : ∃ t, mg "MOST_PLACES" = some (.int 2000 t)
  c_MOST_THINGS : ∃ t, mg "MOST_THINGS" = some (.int 200 t)
  g_Order : mg "Order" = some (.ref a.Order)
  g_Web : mg "Web" = some (.ref a.Web)
  mk_Order : Mk K a.Order a.Order__init__
  is_Order : InsK K a.Order
  nk_Order : NoK K a.Order
  mk_Web : Mk K a.Web a.Web__init__
  is_Web : InsK K a.Web
  nk_Web : NoK K a.Web
  m_bool : mg "bool" = none
  m_dict : mg "dict" = none
  m_enumerate : mg "enumerate" = none
  m_int : mg "int" = none
  m_isinstance : mg "isinstance" = none
  m_len : mg "len" = none
  m_list : mg "list" = none
  m_max : mg "max" = none
  m_min : mg "min" = none
  m_range : mg "range" = none
  m_sorted : mg "sorted" = none
  m_str : mg "str" = none
  m_tuple : mg "tuple" = none
  na_Order__reach : NoAttr K a.Order "_reach"
  na_Web__arrows : NoAttr K a.Web "_arrows"
  na_Web__ins : NoAttr K a.Web "_ins"
  na_Web__known : NoAttr K a.Web "_known"
  na_Web__outs : NoAttr K a.Web "_outs"
  pr_Order_covers : PropOf K a.Order "covers" a.po_Order_covers a.Order_covers
  pr_Order_size : PropOf K a.Order "size" a.po_Order_size a.Order_size
  pr_Web_arrows : PropOf K a.Web "arrows" a.po_Web_arrows a.Web_arrows
  pr_Web_places : PropOf K a.Web "places" a.po_Web_places a.Web_places
  mt_Order__eq__ : Meth K a.Order "__eq__" a.Order__eq__
  mt_Order__len__ : Meth K a.Order "__len__" a.Order__len__
  mt_Order__ne__ : Meth K a.Order "__ne__" a.Order__ne__
  mt_Order_at_or_below : Meth K a.Order "at_or_below" a.Order_at_or_below
  mt_Web__contains__ : Meth K a.Web "__contains__" a.Web__contains__
  mt_Web__len__ : Meth K a.Web "__len__" a.Web__len__
  g_BadNumber : mg "BadNumber" = some (.ref a.BadNumber)
  k_BadNumber : PySem.W.keepIn K (.ref a.BadNumber) = true
  e_BadNumber : ExC K a.BadNumber
  ty_BadNumber : PySem.W.typeIn K (.ref a.BadNumber) = some (.type "type")
  kv_BadNumber : PySem.W.kitOne K (.ref a.BadNumber) (.type "ValueError") = some true
  n_BadNumber : PySem.W.excIn K a.BadNumber [.type "ValueError", .type "Exception", .type "BaseException", .type "object"] "ValueError.__new__" = true
  g_BadOrder : mg "BadOrder" = some (.ref a.BadOrder)
  k_BadOrder : PySem.W.keepIn K (.ref a.BadOrder) = true
  e_BadOrder : ExC K a.BadOrder
  ty_BadOrder : PySem.W.typeIn K (.ref a.BadOrder) = some (.type "type")
  kv_BadOrder : PySem.W.kitOne K (.ref a.BadOrder) (.type "ValueError") = some true
  o_BadOrder : OexC K a.BadOrder
  i_BadOrder : PySem.W.findIn K (.ref a.BadOrder) "__init__" = some (some (.ref a.BadOrder__init__))
  ti_BadOrder : PySem.W.typeIn K (.ref a.BadOrder__init__) = some (.type "function")
  nf_BadOrder_bad_at : PySem.W.findIn K (.ref a.BadOrder) "bad_at" = some none
  g_BadWeb : mg "BadWeb" = some (.ref a.BadWeb)
  k_BadWeb : PySem.W.keepIn K (.ref a.BadWeb) = true
  e_BadWeb : ExC K a.BadWeb
  ty_BadWeb : PySem.W.typeIn K (.ref a.BadWeb) = some (.type "type")
  kv_BadWeb : PySem.W.kitOne K (.ref a.BadWeb) (.type "ValueError") = some true
  o_BadWeb : OexC K a.BadWeb
  i_BadWeb : PySem.W.findIn K (.ref a.BadWeb) "__init__" = some (some (.ref a.BadWeb__init__))
  ti_BadWeb : PySem.W.typeIn K (.ref a.BadWeb__init__) = some (.type "function")
  nf_BadWeb_bad_at : PySem.W.findIn K (.ref a.BadWeb) "bad_at" = some none
  g_HueError : mg "HueError" = some (.ref a.HueError)
  k_HueError : PySem.W.keepIn K (.ref a.HueError) = true
  e_HueError : ExC K a.HueError
  ty_HueError : PySem.W.typeIn K (.ref a.HueError) = some (.type "type")
  kv_HueError : PySem.W.kitOne K (.ref a.HueError) (.type "ValueError") = some true
  n_HueError : PySem.W.excIn K a.HueError [.type "ValueError", .type "Exception", .type "BaseException", .type "object"] "ValueError.__new__" = true
  g_TooMany : mg "TooMany" = some (.ref a.TooMany)
  k_TooMany : PySem.W.keepIn K (.ref a.TooMany) = true
  e_TooMany : ExC K a.TooMany
  ty_TooMany : PySem.W.typeIn K (.ref a.TooMany) = some (.type "type")
  kv_TooMany : PySem.W.kitOne K (.ref a.TooMany) (.type "ValueError") = some true
  o_TooMany : OexC K a.TooMany
  i_TooMany : PySem.W.findIn K (.ref a.TooMany) "__init__" = some (some (.ref a.TooMany__init__))
  ti_TooMany : PySem.W.typeIn K (.ref a.TooMany__init__) = some (.type "function")
  nf_TooMany_most : PySem.W.findIn K (.ref a.TooMany) "most" = some none
  kit_Order_Web : PySem.W.kitOne K (.ref a.Order) (.ref a.Web) = some false
  kit_Web_Order : PySem.W.kitOne K (.ref a.Web) (.ref a.Order) = some false
  bm_0 : ∃ ds, Vals [] ds ∧ Binds K d.Web__init__ ["self", "places", "arrows"] ds
  bm_1 : ∃ ds, Vals [] ds ∧ Binds K d.Order__init__ ["self", "size", "pairs"] ds
  kb_0 : KBn K d.is_order_web ["web"] 0 ["web"] (fun us ws => [ws.getD 0 .none]) (fun us ws => [ws.getD 0 .non])
  kb_1 : KBn K d.order_of_web ["web"] 0 ["web"] (fun us ws => [ws.getD 0 .none]) (fun us ws => [ws.getD 0 .non])
  exm_BadNumber_BadNumber : PySem.W.exmOne K (.ref a.BadNumber) (.ref a.BadNumber) = some true
  kit_BadNumber_BadNumber : PySem.W.kitOne K (.ref a.BadNumber) (.ref a.BadNumber) = some true
  exm_BadNumber_BadOrder : PySem.W.exmOne K (.ref a.BadNumber) (.ref a.BadOrder) = some false
  kit_BadNumber_BadOrder : PySem.W.kitOne K (.ref a.BadNumber) (.ref a.BadOrder) = some false
  exm_BadNumber_BadWeb : PySem.W.exmOne K (.ref a.BadNumber) (.ref a.BadWeb) = some false
  kit_BadNumber_BadWeb : PySem.W.kitOne K (.ref a.BadNumber) (.ref a.BadWeb) = some false
  exm_BadNumber_HueError : PySem.W.exmOne K (.ref a.BadNumber) (.ref a.HueError) = some true
  kit_BadNumber_HueError : PySem.W.kitOne K (.ref a.BadNumber) (.ref a.HueError) = some true
  exm_BadNumber_TooMany : PySem.W.exmOne K (.ref a.BadNumber) (.ref a.TooMany) = some false
  kit_BadNumber_TooMany : PySem.W.kitOne K (.ref a.BadNumber) (.ref a.TooMany) = some false
  exm_BadOrder_BadNumber : PySem.W.exmOne K (.ref a.BadOrder) (.ref a.BadNumber) = some false
  kit_BadOrder_BadNumber : PySem.W.kitOne K (.ref a.BadOrder) (.ref a.BadNumber) = some false
  exm_BadOrder_BadOrder : PySem.W.exmOne K (.ref a.BadOrder) (.ref a.BadOrder) = some true
  kit_BadOrder_BadOrder : PySem.W.kitOne K (.ref a.BadOrder) (.ref a.BadOrder) = some true
  exm_BadOrder_BadWeb : PySem.W.exmOne K (.ref a.BadOrder) (.ref a.BadWeb) = some false
  kit_BadOrder_BadWeb : PySem.W.kitOne K (.ref a.BadOrder) (.ref a.BadWeb) = some false
  exm_BadOrder_HueError : PySem.W.exmOne K (.ref a.BadOrder) (.ref a.HueError) = some true
  kit_BadOrder_HueError : PySem.W.kitOne K (.ref a.BadOrder) (.ref a.HueError) = some true
  exm_BadOrder_TooMany : PySem.W.exmOne K (.ref a.BadOrder) (.ref a.TooMany) = some false
  kit_BadOrder_TooMany : PySem.W.kitOne K (.ref a.BadOrder) (.ref a.TooMany) = some false
  exm_BadWeb_BadNumber : PySem.W.exmOne K (.ref a.BadWeb) (.ref a.BadNumber) = some false
  kit_BadWeb_BadNumber : PySem.W.kitOne K (.ref a.BadWeb) (.ref a.BadNumber) = some false
  exm_BadWeb_BadOrder : PySem.W.exmOne K (.ref a.BadWeb) (.ref a.BadOrder) = some false
  kit_BadWeb_BadOrder : PySem.W.kitOne K (.ref a.BadWeb) (.ref a.BadOrder) = some false
  exm_BadWeb_BadWeb : PySem.W.exmOne K (.ref a.BadWeb) (.ref a.BadWeb) = some true
  kit_BadWeb_BadWeb : PySem.W.kitOne K (.ref a.BadWeb) (.ref a.BadWeb) = some true
  exm_BadWeb_HueError : PySem.W.exmOne K (.ref a.BadWeb) (.ref a.HueError) = some true
  kit_BadWeb_HueError : PySem.W.kitOne K (.ref a.BadWeb) (.ref a.HueError) = some true
  exm_BadWeb_TooMany : PySem.W.exmOne K (.ref a.BadWeb) (.ref a.TooMany) = some false
  kit_BadWeb_TooMany : PySem.W.kitOne K (.ref a.BadWeb) (.ref a.TooMany) = some false
  exm_HueError_BadNumber : PySem.W.exmOne K (.ref a.HueError) (.ref a.BadNumber) = some false
  kit_HueError_BadNumber : PySem.W.kitOne K (.ref a.HueError) (.ref a.BadNumber) = some false
  exm_HueError_BadOrder : PySem.W.exmOne K (.ref a.HueError) (.ref a.BadOrder) = some false
  kit_HueError_BadOrder : PySem.W.kitOne K (.ref a.HueError) (.ref a.BadOrder) = some false
  exm_HueError_BadWeb : PySem.W.exmOne K (.ref a.HueError) (.ref a.BadWeb) = some false
  kit_HueError_BadWeb : PySem.W.kitOne K (.ref a.HueError) (.ref a.BadWeb) = some false
  exm_HueError_HueError : PySem.W.exmOne K (.ref a.HueError) (.ref a.HueError) = some true
  kit_HueError_HueError : PySem.W.kitOne K (.ref a.HueError) (.ref a.HueError) = some true
  exm_HueError_TooMany : PySem.W.exmOne K (.ref a.HueError) (.ref a.TooMany) = some false
  kit_HueError_TooMany : PySem.W.kitOne K (.ref a.HueError) (.ref a.TooMany) = some false
  exm_TooMany_BadNumber : PySem.W.exmOne K (.ref a.TooMany) (.ref a.BadNumber) = some false
  kit_TooMany_BadNumber : PySem.W.kitOne K (.ref a.TooMany) (.ref a.BadNumber) = some false
  exm_TooMany_BadOrder : PySem.W.exmOne K (.ref a.TooMany) (.ref a.BadOrder) = some false
  kit_TooMany_BadOrder : PySem.W.kitOne K (.ref a.TooMany) (.ref a.BadOrder) = some false
  exm_TooMany_BadWeb : PySem.W.exmOne K (.ref a.TooMany) (.ref a.BadWeb) = some false
  kit_TooMany_BadWeb : PySem.W.kitOne K (.ref a.TooMany) (.ref a.BadWeb) = some false
  exm_TooMany_HueError : PySem.W.exmOne K (.ref a.TooMany) (.ref a.HueError) = some true
  kit_TooMany_HueError : PySem.W.kitOne K (.ref a.TooMany) (.ref a.HueError) = some true
  exm_TooMany_TooMany : PySem.W.exmOne K (.ref a.TooMany) (.ref a.TooMany) = some true
  kit_TooMany_TooMany : PySem.W.kitOne K (.ref a.TooMany) (.ref a.TooMany) = some true
/-! ### one step of a reading; as many as go -/
local macro_rules | `(tactic| row_hasAny sx1) => `(tactic| first
  | with_reducible refine' s_seq ?_
  | with_reducible refine' s_asg ?_
  | with_reducible refine' s_if ?_
  | with_reducible refine' s_ret ?_
  | with_reducible refine' s_drop ?_
  | with_reducible refine' s_next ?_
  | with_reducible refine' s_try ?_
  | with_reducible refine' s_raise1 ?_
  | with_reducible refine' s_raise0 ?_
  | with_reducible refine' one_of ?_
  | with_reducible refine' s_brk ?_
  | with_reducible refine' s_cont ?_
  | with_reducible refine' g_name ?_
  | with_reducible refine' g_sub ?_
  | ((with_reducible refine' e_var ?hx ?_); (case hx => exact rfl))
  | with_reducible refine' e_c ?_
  | with_reducible refine' s_for ?_
  | with_reducible refine' i_rng1 ?_
  | with_reducible refine' i_rng2 ?_
  | with_reducible refine' i_list ?_
  | with_reducible refine' i_tup ?_
  | with_reducible refine' i_enum ?_
  | with_reducible refine' i_enumT ?_
  | with_reducible refine' g_cons ?_
  | with_reducible refine' g_nil ?_
  | with_reducible refine' e_lc ?_
  | with_reducible refine' e_yes ?_
  | with_reducible refine' e_op ?_
  | with_reducible refine' e_un ?_
  | with_reducible refine' e_nil ?_
  | with_reducible refine' e_cons ?_
  | with_reducible refine' e_call ?_
  | with_reducible refine' e_callS ?_
  | with_reducible refine' e_callN ?_
  | with_reducible refine' e_CB ?_
  | with_reducible refine' s_fld ?_
  | with_reducible refine' s_dput ?_
  | with_reducible refine' e_fld ?_
  | with_reducible refine' e_make ?_
  | with_reducible refine' e_makeS ?_
  | with_reducible refine' e_prop ?_
  | with_reducible refine' e_meth ?_
  | with_reducible refine' e_tru ?_
  | with_reducible refine' e_methS ?_
  | with_reducible refine' e_revL ?_
  | with_reducible refine' e_lst ?_
  | with_reducible refine' e_tup ?_
  | with_reducible refine' e_ifE ?_
  | with_reducible refine' e_test ?_
  | with_reducible refine' e_B ?_
  | with_reducible refine' e_bl ?_
  | with_reducible refine' e_not ?_
  | with_reducible refine' e_and ?_
  | with_reducible refine' e_or ?_
  | with_reducible refine' e_andV ?_
  | with_reducible refine' e_orV ?_
  | with_reducible refine' e_notV ?_
  | with_reducible refine' e_chain ?_
  | with_reducible refine' e_BM ?_
  | with_reducible refine' e_BM0 ?_
  | with_reducible refine' e_sl ?_
  | with_reducible refine' e_nopart ?_
  | with_reducible refine' e_part ?_
  | with_reducible refine' e_int ?_
  | with_reducible refine' r_I0 ?_
  | with_reducible refine' r_addI ?_
  | with_reducible refine' r_int ?_
  | with_reducible refine' r_un ?_
  | with_reducible refine' and_rfl ?_
  | with_reducible refine' r_max ?_
  | with_reducible refine' r_min ?_
  | ((with_reducible refine' r_mulI ?hc ?_); (case hc => first | exact .inr ⟨by decide, by decide⟩ | exact .inl ⟨by decide, by decide⟩ | exact .inl ⟨by omega, by omega⟩ | exact .inr ⟨by omega, by omega⟩))
  | ((with_reducible refine' r_mod ?hc ?_); (case hc => first | decide | omega))
  | ((with_reducible refine' r_div ?hc ?_); (case hc => exact wide_div (b := 64) (by first | decide | omega) (by first | decide | omega) (by decide) (by decide)))
  | ((with_reducible refine' r_pow ?hc ?_); (case hc => exact ⟨by decide, by decide, by decide⟩))
  | ((with_reducible refine' r_eqS ?hc ?_); (case hc => rfl))
  | ((with_reducible refine' r_neS ?hc ?_); (case hc => rfl)))
local macro_rules | `(tactic| row_hasAny look) => `(tactic| first
  | exact upd_same
  | assumption
  | (refine nw_new (by assumption) _ _ ?_; (row_hasAny look))
  | (refine (by assumption : Same _ _) _ _ ?_; (row_hasAny look))
  | (refine (by assumption : SB _ _ _) _ _ ?_ ?_; (focus (row_hasAny nes)); (row_hasAny look))
  | (refine Eq.trans (upd_ne ?_) ?_; (focus (row_hasAny nes)); (row_hasAny look)))
local macro_rules | `(tactic| row_hasAny nes) => `(tactic| first
  | assumption
  | exact Ne.symm (by assumption)
  | (refine' nw_ne (o := ?o) (by assumption) ?h; (case h => row_hasAny look))
  | (refine' Ne.symm (nw_ne (o := ?o) (by assumption) ?h); (case h => row_hasAny look))
  | exact ne_of (by assumption) (by assumption) (by intro z; cases z))
local macro_rules | `(tactic| row_hasAny sames) => `(tactic| first
  | exact Same.refl _
  | assumption
  | (refine nw_up ?_ (by assumption); (row_hasAny sames))
  | (refine nw_free (by assumption) ?_ ?_ <;> (row_hasAny sames)))
local macro_rules | `(tactic| row_hasAny dv) => `(tactic| first
  | assumption
  | (refine nw_dv (by assumption) ?_; (row_hasAny dv))
  | (refine Dv.mono (by assumption : Same _ _) ?_; (row_hasAny dv)))
local macro_rules | `(tactic| row_hasAny sx2) => `(tactic| first
  | ((with_reducible refine' r_ixL' ?h1 ?h2 ?_); (case h1 => row_hasAny look); (case h2 => rfl))
  | ((with_reducible refine' r_ixT' ?h1 ?h2 ?_); (case h1 => row_hasAny look); (case h2 => rfl))
  | ((with_reducible refine' r_setL ?h1 ?h2 ?_); (case h1 => row_hasAny look); (case h2 => rfl))
  | ((with_reducible refine' r_lenL ?h1 ?_); (case h1 => row_hasAny look))
  | ((with_reducible refine' r_lenT ?h1 ?_); (case h1 => row_hasAny look))
  | ((with_reducible refine' r_sfld ?h1 ?h2 ?h3 ?h4 ?_); (case h1 => row_hasAny look); (case h2 => assumption); (case h3 => assumption); (case h4 => exact Nat.le_of_ble_eq_true rfl))
  | ((with_reducible refine' r_fld ?h1 ?h2 ?h3 ?h4 ?_); (case h1 => row_hasAny look); (case h2 => assumption); (case h3 => assumption); (case h4 => rfl))
  | ((with_reducible refine' r_revL ?h1 ?_); (case h1 => row_hasAny look))
  | ((with_reducible refine' r_lenD ?h1 ?_); (case h1 => row_hasAny look))
  | ((with_reducible refine' r_sortedD0 ?h1 ?_); (case h1 => row_hasAny look))
  | ((with_reducible refine' and_tyL ?h1 ?_); (case h1 => row_hasAny look))
  | ((with_reducible refine' r_append ?h1 ?h2 ?_); (case h1 => row_hasAny look); (case h2 => omega))
  | ((with_reducible refine' i_rng1' ?hc ?_); (case hc => exact ⟨by omega, by omega⟩))
  | ((with_reducible refine' i_rng2' ?hc ?_); (case hc => exact ⟨by omega, by omega, by omega, by omega⟩))
  | ((with_reducible refine' i_list' ?hc ?_); (case hc => exact SqL.of (by row_hasAny look)))
  | ((with_reducible refine' g_tup ?h1 ?h2 ?_); (case h1 => row_hasAny look); (case h2 => rfl))
  | ((with_reducible refine' e_xf ?h1 ?h2 ?h3 ?_); (case h1 => exact rfl); (case h2 => row_hasAny look); (case h3 => first | rfl | simp [List.lookup]))
  | ((with_reducible refine' and_eqw ?h ?_); (case h => rfl))
  | ((with_reducible refine' i_tup' ?hc ?_); (case hc => exact SqT.of (by row_hasAny look)))
  | ((with_reducible refine' r_isiD ?h1 ?h2 ?_); (case h1 => row_hasAny dv); (case h2 => first | rfl | decide +kernel))
  | ((with_reducible refine' r_isi2D ?h0 ?h1 ?h2 ?_); (case h0 => row_hasAny look); (case h1 => row_hasAny dv); (case h2 => first | rfl | decide +kernel))
  | ((with_reducible refine' if_dt ?hc ?_); (case hc => omega))
  | ((with_reducible refine' if_df ?hc ?_); (case hc => omega))
  | (with_reducible refine' all_new (fun _ _ => ?_))
  | (with_reducible refine' nw_intro (fun _ _ => ?_))
  | ((with_reducible refine' e_dnewK (fun _ _ => ?_)))
  | ((with_reducible refine' e_dnewT ?_))
  | ((with_reducible refine' r_lenT' ?h1 ?_); (case h1 => row_hasAny look))
  | ((with_reducible refine' e_disp1 (fun _ _ => ?_) ?m1 ?m2); (case m1 => exact mono_c); (case m2 => first | exact mono_c | exact mono_l1))
  | ((with_reducible refine' e_keyS ?_))
  | ((with_reducible refine' e_keyI ?_))
  | ((with_reducible refine' and_look ?hc ?_); (case hc => row_hasAny look))
  | ((with_reducible refine' if_t ?hc ?_); (case hc => rfl))
  | ((with_reducible refine' if_f ?hc ?_); (case hc => rfl))
  | ((with_reducible refine' e_disp ?hc ?_); (case hc => exact len_ok rfl)))
local macro_rules | `(tactic| row_hasAny sx) => `(tactic| repeat' (first | row_hasAny sx1 | row_hasAny sx2))
local macro_rules | `(tactic| row_hasAny sx_old) => `(tactic| repeat' (row_hasAny sx1))
/-! ### one step of a reading over values seen whole -/
local macro_rules | `(tactic| row_hasAny px1) => `(tactic| first
  | with_reducible refine' q_seq ?_
  | with_reducible refine' q_asg ?_
  | with_reducible refine' q_if ?_
  | ((with_reducible refine' q_retO (m := .ow _) ?h ?hm ?_); (case h => exact rfl); (case hm => exact nofun))
  | with_reducible refine' q_ret ?_
  | with_reducible refine' q_retN ?_
  | with_reducible refine' q_drop ?_
  | with_reducible refine' q_next ?_
  | with_reducible refine' q_brk ?_
  | with_reducible refine' q_cont ?_
  | with_reducible refine' q_raise0 ?_
  | with_reducible refine' q_raise1 ?_
  | with_reducible refine' p_gname ?_
  | ((with_reducible refine' p_cname ?h ?_); (case h => decide))
  | ((with_reducible refine' p_var ?h ?_); (case h => exact rfl))
  | ((with_reducible refine' p_varS ?h ?_); (case h => exact rfl))
  | with_reducible refine' p_int ?_
  | with_reducible refine' p_bl ?_
  | with_reducible refine' p_non ?_
  | with_reducible refine' p_str ?_
  | ((with_reducible refine' p_ix2 ?h ?_); (case h => exact rfl))
  | ((with_reducible refine' p_ixO ?h ?_); (case h => exact rfl))
  | with_reducible refine' q_op ?_
  | with_reducible refine' q_un ?_
  | with_reducible refine' q_cons ?_
  | with_reducible refine' p_nil ?_
  | with_reducible refine' p_isi ?_
  | with_reducible refine' p_isi2 ?_
  | with_reducible refine' p_isiC ?_
  | ((with_reducible refine' p_lenO ?h ?_); (case h => exact rfl))
  | ((with_reducible refine' p_lenO2 ?h ?_); (case h => exact rfl))
  | ((with_reducible refine' p_isX3 ?c ?hd ?e1 ?e2 ?e3 ?hk ?h ?_); (case c => assumption); (case hd => first | exact Or.inl rfl | exact Or.inr ⟨_, _, _, rfl, rfl⟩); (case e1 => first | exact ClsV.own _ | exact ClsV.ty _); (case e2 => first | exact ClsV.own _ | exact ClsV.ty _); (case e3 => first | exact ClsV.own _ | exact ClsV.ty _); (case hk => exact kit_any3 (by assumption) (by assumption) (by assumption)); (case h => exact rfl))
  | ((with_reducible refine' p_isX2 ?c ?hd ?e1 ?e2 ?hk ?h ?_); (case c => assumption); (case hd => first | exact Or.inl rfl | exact Or.inr ⟨_, _, _, rfl, rfl⟩); (case e1 => first | exact ClsV.own _ | exact ClsV.ty _); (case e2 => first | exact ClsV.own _ | exact ClsV.ty _); (case hk => exact kit_any2 (by assumption) (by assumption)); (case h => exact rfl))
  | ((with_reducible refine' p_isX ?c ?hd ?hc ?hk ?h ?_); (case c => assumption); (case hd => first | exact Or.inl rfl | exact Or.inr ⟨_, _, _, rfl, rfl⟩); (case hc => first | exact ClsV.own _ | exact ClsV.ty _); (case hk => assumption); (case h => exact rfl))
  | ((with_reducible refine' p_xf ?hp ?h ?_); (case hp => exact rfl); (case h => exact rfl))
  | with_reducible refine' p_CB ?_
  | ((with_reducible refine' p_truO ?h ?_); (case h => exact rfl))
  | with_reducible refine' p_test ?_
  | with_reducible refine' p_B ?_
  | with_reducible refine' p_not ?_
  | with_reducible refine' p_and ?_
  | with_reducible refine' p_or ?_
  | with_reducible refine' p_yes ?_
  | with_reducible refine' p_ifE ?_
  | with_reducible refine' p_andV ?_
  | with_reducible refine' p_orV ?_
  | with_reducible refine' p_notV ?_
  | with_reducible refine' p_notT ?_
  | with_reducible refine' q_chain ?_
  | with_reducible refine' p_dnewK ?_
  | with_reducible refine' p_dnewT ?_
  | ((with_reducible refine' p_disp1 ?m1 ?m2 ?_); (case m1 => exact mono_c); (case m2 => first | exact mono_c | exact mono_l1))
  | with_reducible refine' p_lst ?_
  | with_reducible refine' p_tup ?_
  | with_reducible refine' p_sl ?_
  | with_reducible refine' p_nopart ?_
  | with_reducible refine' p_part ?_
  | ((with_reducible refine' p_append ?h ?_); (case h => exact rfl))
  | ((with_reducible refine' p_append2 ?h ?_); (case h => exact rfl))
  | ((with_reducible refine' p_gsub2 ?h ?_); (case h => exact rfl))
  | ((with_reducible refine' p_popAt ?h ?_); (case h => exact rfl))
  | with_reducible refine' q_callT ?_
  | with_reducible refine' p_ilist ?_
  | with_reducible refine' p_itup ?_
  | with_reducible refine' p_irng1 ?_
  | with_reducible refine' p_irng2 ?_
  | with_reducible refine' p_ienum ?_
  | with_reducible refine' p_ienumT ?_
  | with_reducible refine' p_gtup ?_
  | with_reducible refine' p_ctup ?_
  | with_reducible refine' p_gnil ?_
  | with_reducible refine' p_cnil ?_
  | ((with_reducible refine' p_gcons _ ?h ?_); (case h => exact rfl))
  | ((with_reducible refine' p_ccons _ ?h ?h2 ?_); (case h => exact rfl); (case h2 => decide)))
local macro_rules | `(tactic| row_hasAny px2) => `(tactic| first
  | with_reducible refine' fzSS ?_
  | with_reducible refine' fzS ?_
  | with_reducible refine' fzT ?_
  | with_reducible refine' fzSO ?_
  | with_reducible refine' fzOS ?_
  | with_reducible refine' fzOO ?_
  | with_reducible refine' fzO ?_
  | with_reducible refine' fzD ?_
  | with_reducible refine' fzDt ?_
  | with_reducible refine' ex_bl ?_
  | with_reducible refine' ex_int ?_
  | with_reducible refine' ex_ii ?_
  | with_reducible refine' ex_one ?_
  | with_reducible refine' ex_lst1 ?_
  | with_reducible refine' ex_tup1 ?_
  | ((with_reducible refine' ex_int1 ?h1 ?h2 ?_); (case h1 => omega); (case h2 => omega))
  | ((with_reducible refine' ex_int2 ?h1 ?_); (case h1 => exact ⟨by omega, by omega, by omega, by omega⟩))
  | ((with_reducible refine' ex_lst ?h1 ?_); (case h1 => exact rfl))
  | ((with_reducible refine' ex_tup ?h1 ?_); (case h1 => exact rfl))
  | ((with_reducible refine' ex_ty ?h1 ?h2 ?h3 ?_); (case h1 => exact rfl); (case h2 => exact rfl); (case h3 => first | rfl | decide +kernel))
  | ((with_reducible refine' ex_ty2 ?h1 ?h2 ?h3 ?_); (case h1 => exact rfl); (case h2 => exact rfl); (case h3 => first | rfl | decide +kernel))
  | ((with_reducible refine' ex_tyP ?h1 ?h3 ?_); (case h1 => exact rfl); (case h3 => first | rfl | decide +kernel))
  | ((with_reducible refine' ex_tyP2 ?h1 ?h3 ?_); (case h1 => exact rfl); (case h3 => first | rfl | decide +kernel))
  | ((with_reducible refine' ex_tyA2 ?h1 ?h2 ?_); (case h1 => exact rfl); (case h2 => assumption))
  | ((with_reducible refine' ex_tyA ?h1 ?h2 ?h3 ?_); (case h1 => exact rfl); (case h2 => assumption); (case h3 => decide))
  | ((with_reducible refine' ex_tyAC ?h1 ?h2 ?_); (case h1 => exact rfl); (case h2 => assumption))
  | ((with_reducible refine' ex_fld ?h1 ?h2 ?h3 ?h4 ?_); (case h1 => exact rfl); (case h2 => assumption); (case h3 => assumption); (case h4 => rfl))
  | ((with_reducible refine' ex_of ?h1 ?h2 ?_); (case h1 => exact rfl); (case h2 => assumption))
  | ((with_reducible refine' ex_sh ?h1 ?_); (case h1 => exact rfl))
  | with_reducible refine' shs0 ?_
  | with_reducible refine' shsC ?_
  | ((with_reducible refine' ex_keyS ?h1 ?_); (case h1 => exact rfl))
  | ((with_reducible refine' ex_keyI ?h1 ?_); (case h1 => exact rfl))
  | ((with_reducible refine' and_eqn ?h1 ?_); (case h1 => exact rfl))
  | ((with_reducible refine' and_len ?h1 ?_); (case h1 => exact rfl))
  | with_reducible refine' v_addI ?_
  | with_reducible refine' v_sub ?_
  | with_reducible refine' v_eqI ?_
  | with_reducible refine' v_neI ?_
  | with_reducible refine' v_eqStr ?_
  | with_reducible refine' v_neStr ?_
  | with_reducible refine' v_eqB ?_
  | with_reducible refine' v_neg ?_
  | with_reducible refine' v_Ib ?_
  | with_reducible refine' v_Ii ?_
  | with_reducible refine' v_or ?_
  | with_reducible refine' v_and ?_
  | with_reducible refine' v_xor ?_
  | ((with_reducible refine' v_mod ?hc ?_); (case hc => first | decide | omega))
  | ((with_reducible refine' v_div ?hc ?_); (case hc => exact wide_div (b := 64) (by first | decide | omega) (by first | decide | omega) (by decide) (by decide)))
  | ((with_reducible refine' v_mulI ?hc ?_); (case hc => first | exact .inr ⟨by decide, by decide⟩ | exact .inl ⟨by decide, by decide⟩ | exact .inl ⟨by omega, by omega⟩ | exact .inr ⟨by omega, by omega⟩))
  | ((with_reducible refine' v_pow ?hc ?_); (case hc => exact ⟨by decide, by decide, by decide⟩))
  | ((with_reducible refine' v_isN ?hc ?_); (case hc => exact rfl))
  | ((with_reducible refine' v_notN ?hc ?_); (case hc => exact rfl))
  | with_reducible refine' v_lenL ?_
  | with_reducible refine' v_lenT ?_
  | ((with_reducible refine' v_ixL ?hc ?_); (case hc => exact rfl))
  | ((with_reducible refine' v_ixT ?hc ?_); (case hc => exact rfl))
  | with_reducible refine' v_listL ?_
  | with_reducible refine' v_listT ?_
  | with_reducible refine' v_tupL ?_
  | with_reducible refine' v_tupT ?_
  | with_reducible refine' v_int ?_
  | with_reducible refine' v_max ?_
  | with_reducible refine' v_min ?_
  | ((with_reducible refine' cb1 ?hc ?h2 ?_); (case hc => exact rfl); (case h2 => first | exact trivial | assumption | omega))
  | ((with_reducible refine' cbX1 ?hc ?h2 ?_); (case hc => exact rfl); (case h2 => first | exact trivial | assumption | omega))
  | ((with_reducible refine' if_t ?hc ?_); (case hc => rfl))
  | ((with_reducible refine' if_f ?hc ?_); (case hc => rfl))
  | ((with_reducible refine' if_dt ?hc ?_); (case hc => omega))
  | ((with_reducible refine' if_df ?hc ?_); (case hc => omega))
  | with_reducible refine' q_makeT ?_
  | with_reducible refine' q_makeX ?_
  | with_reducible refine' q_make0 ?_
  | with_reducible refine' p_fld ?_
  | with_reducible refine' q_prop ?_
  | with_reducible refine' p_bits ?_
  | with_reducible refine' q_callX ?_
  | with_reducible refine' q_call0 ?_
  | with_reducible refine' p_tru ?_
  | ((with_reducible refine' ex_tru ?h1 ?h2 ?_); (case h1 => exact rfl); (case h2 => exact rfl))
  | ((with_reducible refine' p_varW ?h ?_); (case h => exact rfl))
  | fail)
local macro_rules | `(tactic| row_hasAny px) => `(tactic| repeat' (first | row_hasAny px1 | row_hasAny px2))
local macro_rules | `(tactic| row_hasAny px3) => `(tactic| first
  | with_reducible refine' p_makeX0 ?_
  | ((with_reducible refine' p_makeX1 ?hn ?hm ?_); (case hn => rfl); (case hm => rfl))
  | ((with_reducible refine' p_makeX1K ?hn ?hm ?_); (case hn => rfl); (case hm => rfl))
  | ((with_reducible refine' p_makeX2 ?hn ?hm ?hf ?_); (case hn => rfl); (case hm => rfl); (case hf => decide))
  | ((with_reducible refine' p_makeX2K ?hn ?hm ?hf ?_); (case hn => rfl); (case hm => rfl); (case hf => decide))
  | with_reducible refine' ex_two ?_
  | ((with_reducible refine' v_addL ?hc ?_); (case hc => (simp only [List.length_cons, List.length_nil, List.length_append]; rw [sizeLine_eq]; omega)))
  | with_reducible refine' p_xv ?_)
local macro_rules | `(tactic| row_hasAny pxx) => `(tactic| repeat' (first | row_hasAny px3 | row_hasAny px1 | row_hasAny px2))
local macro_rules | `(tactic| row_hasAny px4) => `(tactic| first
  | ((with_reducible refine' p_isV ?h ?hx ?c ?hc ?hk ?_); (case h => exact rfl); (case hx => assumption); (case c => assumption); (case hc => first | exact ClsV.own _ | exact ClsV.ty _); (case hk => assumption)))
local macro_rules | `(tactic| row_hasAny pxk) => `(tactic| repeat' (first | row_hasAny px4 | row_hasAny px3 | row_hasAny px1 | row_hasAny px2))
local macro_rules | `(tactic| row_hasAny px5) => `(tactic| first
  | ((with_reducible refine' ex_xv ?h1 ?h2 ?h3 ?h4 ?_); (case h1 => exact rfl); (case h2 => assumption); (case h3 => assumption); (case h4 => exact rfl)))
local macro_rules | `(tactic| row_hasAny pxv) => `(tactic| repeat' (first | row_hasAny px5 | row_hasAny px3 | row_hasAny px1 | row_hasAny px2))
/-! ### one step more: answers told by what goes on behind them -/
local macro_rules | `(tactic| row_hasAny pre) => `(tactic| first | exact trivial | assumption | omega | decide | exact ⟨by assumption, by assumption⟩)
local macro_rules | `(tactic| row_hasAny px6) => `(tactic| first
  | ((with_reducible refine' cbS ?hc ?h2 ?_); (case hc => exact rfl); (case h2 => row_hasAny pre); intros)
  | ((with_reducible refine' cbXS ?hc ?h2 ?_); (case hc => exact rfl); (case h2 => row_hasAny pre); intros)
  | with_reducible refine' v_abs ?_
  | with_reducible refine' v_intB ?_
  | ((with_reducible refine' v_powW ?hc ?_); (case hc => exact ⟨by decide, by decide +kernel⟩))
  | ((with_reducible refine' v_ixS ?hs ?he ?_); (case hs => assumption); (case he => first | exact rfl | exact atI_nat' (n := 0) rfl | exact atI_nat' (n := 1) rfl | exact atI_nat' (n := 2) rfl))
  | ((with_reducible refine' v_ixL ?he ?_); (case he => first | exact atI_nat' (n := 0) rfl | exact atI_nat' (n := 1) rfl | exact atI_nat' (n := 2) rfl))
  | ((with_reducible refine' v_lenS ?hs ?_); (case hs => assumption))
  | ((with_reducible refine' v_listS ?hs ?_); (case hs => assumption))
  | ((with_reducible refine' v_tupS ?hs ?_); (case hs => assumption))
  | ((with_reducible refine' p_isq ?h ?hs ?_); (case h => exact rfl); (case hs => first | assumption | exact rfl))
  | ((with_reducible refine' p_isqO ?h ?_); (case h => exact rfl))
  | ((with_reducible refine' p_varFz ?h ?hf ?_); (case h => exact rfl); (case hf => assumption))
  | ((with_reducible refine' ix_ex ?hm ?h ?he ?_); (case hm => exact rfl); (case h => exact rfl); (case he => first | exact atI_nat' (n := 0) rfl | exact atI_nat' (n := 1) rfl | exact atI_nat' (n := 2) rfl))
  | ((with_reducible refine' p_isVE ?hc ?_); (case hc => first | exact ClsV.own _ | exact ClsV.ty _))
  | with_reducible refine' p_lstRg1 ?_
  | with_reducible refine' p_tupRg1 ?_
  | with_reducible refine' p_lstRg2 ?_
  | with_reducible refine' p_tupRg2 ?_
  | ((with_reducible refine' ex_rg ?h ?_); (case h => exact ⟨by omega, by omega, by omega, by omega, by omega⟩))
  | with_reducible refine' q_methX ?_
  | with_reducible refine' q_binX ?_
  | with_reducible refine' q_bin0 ?_
  | with_reducible refine' q_neg0 ?_
  | with_reducible refine' p_revS ?_
  | with_reducible refine' q_meth0 ?_
  | ((with_reducible refine' ex_meth ?h1 ?h2 ?_); (case h1 => exact rfl); (case h2 => exact rfl))
  | ((with_reducible refine' ex_prop ?h1 ?_); (case h1 => exact rfl))
  | ((with_reducible refine' v_ixB ?he ?_); (case he => first | exact atI_nat' (n := 0) rfl | exact atI_nat' (n := 1) rfl | exact atI_nat' (n := 2) rfl))
  | with_reducible refine' fzOn ?_
  | with_reducible refine' fzOn2 ?_
  | ((with_reducible refine' p_onGet (i := 0) ?hj ?h ?he ?_); (case hj => rfl); (case h => exact rfl); (case he => exact rfl))
  | ((with_reducible refine' p_varOn ?h ?_); (case h => exact rfl))
  | ((with_reducible refine' p_isX4 ?c ?hd ?e1 ?e2 ?e3 ?e4 ?hk ?h ?_); (case c => assumption); (case hd => first | exact Or.inl rfl | exact Or.inr ⟨_, _, _, rfl, rfl⟩); (case e1 => first | exact ClsV.own _ | exact ClsV.ty _); (case e2 => first | exact ClsV.own _ | exact ClsV.ty _); (case e3 => first | exact ClsV.own _ | exact ClsV.ty _); (case e4 => first | exact ClsV.own _ | exact ClsV.ty _); (case hk => exact kit_any4 (by assumption) (by assumption) (by assumption) (by assumption)); (case h => exact rfl))
  | ((with_reducible refine' p_isX5 ?c ?hd ?e1 ?e2 ?e3 ?e4 ?e5 ?hk ?h ?_); (case c => assumption); (case hd => first | exact Or.inl rfl | exact Or.inr ⟨_, _, _, rfl, rfl⟩); (case e1 => first | exact ClsV.own _ | exact ClsV.ty _); (case e2 => first | exact ClsV.own _ | exact ClsV.ty _); (case e3 => first | exact ClsV.own _ | exact ClsV.ty _); (case e4 => first | exact ClsV.own _ | exact ClsV.ty _); (case e5 => first | exact ClsV.own _ | exact ClsV.ty _); (case hk => exact kit_any5 (by assumption) (by assumption) (by assumption) (by assumption) (by assumption)); (case h => exact rfl))
  | ((with_reducible refine' p_isX6 ?c ?hd ?e1 ?e2 ?e3 ?e4 ?e5 ?e6 ?hk ?h ?_); (case c => assumption); (case hd => first | exact Or.inl rfl | exact Or.inr ⟨_, _, _, rfl, rfl⟩); (case e1 => first | exact ClsV.own _ | exact ClsV.ty _); (case e2 => first | exact ClsV.own _ | exact ClsV.ty _); (case e3 => first | exact ClsV.own _ | exact ClsV.ty _); (case e4 => first | exact ClsV.own _ | exact ClsV.ty _); (case e5 => first | exact ClsV.own _ | exact ClsV.ty _); (case e6 => first | exact ClsV.own _ | exact ClsV.ty _); (case hk => exact kit_any6 (by assumption) (by assumption) (by assumption) (by assumption) (by assumption) (by assumption)); (case h => exact rfl))
  | fail)
local macro_rules | `(tactic| row_hasAny pu1) => `(tactic| fail)
local macro_rules | `(tactic| row_hasAny pu) => `(tactic| repeat' (first | row_hasAny px6 | row_hasAny pu1 | row_hasAny px5 | row_hasAny px3 | row_hasAny px1 | row_hasAny px2))
section
variable {P : Program} {w : World} {K : PySem.W.Frag} {mg : Str → Option Value} {base : Heap} {a : Ad} {d : Fd}
/-! ### BadWeb.__init__ -/
theorem ok_BadWeb__init__ (T : Txt K mg a d) : FnOk P w K mg base CX0 1 a.BadWeb__init__ d.BadWeb__init__ ["self", "bad_at"] (spInit1 K a.BadWeb "bad_at") := by
  refine T.F_BadWeb__init__.ok sc_BadWeb__init__ (fun vs H Q E h => ?_) (fun cdv A outer s H vs Q E hr h => ⟨_, (pss_one (ps_ost (pv 0) (pv 1))), ?_⟩)
  · obtain ⟨p, v, rfl, _⟩ := h
    rfl
  · obtain ⟨p, v, rfl, hp, k⟩ := h
    exact ⟨_, rfl, _, rfl, p, _, rfl, T.o_BadWeb, T.nf_BadWeb_bad_at, .inl ⟨hp, fun dx h1 h2 => k dx h1 h2⟩⟩

/-! ### BadOrder.__init__ -/
theorem ok_BadOrder__init__ (T : Txt K mg a d) : FnOk P w K mg base CX0 1 a.BadOrder__init__ d.BadOrder__init__ ["self", "bad_at"] (spInit1 K a.BadOrder "bad_at") := by
  refine T.F_BadOrder__init__.ok sc_BadOrder__init__ (fun vs H Q E h => ?_) (fun cdv A outer s H vs Q E hr h => ⟨_, (pss_one (ps_ost (pv 0) (pv 1))), ?_⟩)
  · obtain ⟨p, v, rfl, _⟩ := h
    rfl
  · obtain ⟨p, v, rfl, hp, k⟩ := h
    exact ⟨_, rfl, _, rfl, p, _, rfl, T.o_BadOrder, T.nf_BadOrder_bad_at, .inl ⟨hp, fun dx h1 h2 => k dx h1 h2⟩⟩

/-! ### TooMany.__init__ -/
theorem ok_TooMany__init__ (T : Txt K mg a d) : FnOk P w K mg base CX0 1 a.TooMany__init__ d.TooMany__init__ ["self", "most"] (spInit1 K a.TooMany "most") := by
  refine T.F_TooMany__init__.ok sc_TooMany__init__ (fun vs H Q E h => ?_) (fun cdv A outer s H vs Q E hr h => ⟨_, (pss_one (ps_ost (pv 0) (pv 1))), ?_⟩)
  · obtain ⟨p, v, rfl, _⟩ := h
    rfl
  · obtain ⟨p, v, rfl, hp, k⟩ := h
    exact ⟨_, rfl, _, rfl, p, _, rfl, T.o_TooMany, T.nf_TooMany_most, .inl ⟨hp, fun dx h1 h2 => k dx h1 h2⟩⟩

/-! ### is_whole -/
def f_is_whole (K : PySem.W.Frag) : List M → Option Br
  | [.sh e] => some (brp (kn K e) (.sh (.bl (isIntE e))))
  | _ => none
theorem ok_is_whole (T : Txt K mg a d) : FnOk P w K mg base CX0 1 a.is_whole d.is_whole ["value"] (spC (ctF (f_is_whole K))) := by
  refine T.F_is_whole.ok sc_is_whole (fun vs H Q E h => spF_len (fun ms b hf => by unfold f_is_whole at hf; split at hf <;> first | rfl | cases hf) h) (fun cdv A outer s H vs Q E hr h => ⟨_, (pss_one (ps_ret (pe_and (pe_callB (k_isi K) (by rfl) T.m_isinstance bt_isinstance (pa_cons (pv 0) (pa_cons (pe_bltn (v := .ty "int") rfl T.m_int bt_int rfl) pa_nil))) (pe_one (pe_not (pe_callB (k_isi K) (by rfl) T.m_isinstance bt_isinstance (pa_cons (pv 0) (pa_cons (pe_bltn (v := .ty "bool") rfl T.m_bool bt_bool rfl) pa_nil)))))))), p_bodyF h fun ms b hf hp => ?_⟩)
  unfold f_is_whole at hf
  split at hf
  rotate_right
  · cases hf
  · rename_i e
    cases hf
    cases e with
    | pr P =>
      obtain rfl : P = empP K := hp
      row_hasAny px
      exact rfl
    | ob C fs => 
      have hp : InsK K C := hp
      row_hasAny px
      exact rfl
    | _ => row_hasAny px <;> exact rfl

/-! ### is_sequence -/
def f_is_sequence (K : PySem.W.Frag) : List M → Option Br
  | [.sh e] => some (brp (kn K e) (.sh (.bl (isSeqE e))))
  | _ => none
theorem ok_is_sequence (T : Txt K mg a d) : FnOk P w K mg base CX0 1 a.is_sequence d.is_sequence ["value"] (spC (ctF (f_is_sequence K))) := by
  refine T.F_is_sequence.ok sc_is_sequence (fun vs H Q E h => spF_len (fun ms b hf => by unfold f_is_sequence at hf; split at hf <;> first | rfl | cases hf) h) (fun cdv A outer s H vs Q E hr h => ⟨_, (pss_one (ps_ret (pe_callB (k_isi K) (by rfl) T.m_isinstance bt_isinstance (pa_cons (pv 0) (pa_cons (pe_tup (pa_cons (pe_bltn (v := .ty "list") rfl T.m_list bt_list rfl) (pa_cons (pe_bltn (v := .ty "tuple") rfl T.m_tuple bt_tuple rfl) pa_nil))) pa_nil))))), p_bodyF h fun ms b hf hp => ?_⟩)
  unfold f_is_sequence at hf
  split at hf
  rotate_right
  · cases hf
  · rename_i e
    cases hf
    cases e with
    | pr P =>
      obtain rfl : P = empP K := hp
      row_hasAny px
      exact rfl
    | ob C fs => 
      have hp : InsK K C := hp
      row_hasAny px
      exact rfl
    | _ => row_hasAny px <;> exact rfl

/-! ### is_between -/
def f_is_between (K : PySem.W.Frag) : List M → Option Br
  | [.sh (.int lo), .sh (.int hi), .sh e] => some (brp (kn K e) (.sh (.bl (inRE lo hi e))))
  | _ => none
theorem ok_is_between (T : Txt K mg a d) : FnOk P w K mg base CX0 2 a.is_between d.is_between ["low", "high", "value"] (spC (ctF (f_is_between K))) := by
  refine T.F_is_between.ok sc_is_between (fun vs H Q E h => spF_len (fun ms b hf => by unfold f_is_between at hf; split at hf <;> first | rfl | cases hf) h) (fun cdv A outer s H vs Q E hr h => ⟨_, (pss_one (ps_ret (pe_and (pe_call (ok_is_whole (P := P) T) (hr.mono (by omega)) rfl T.g_is_whole T.F_is_whole.kp T.b_is_whole .nil pass0 (pa_cons (pv 2) pa_nil)) (pe_one (pe_chain op_le op_le (pv 0) (pv 2) (pv 1)))))), p_bodyF h fun ms b hf hp => ?_⟩)
  unfold f_is_between at hf
  split at hf
  rotate_right
  · cases hf
  · rename_i lo hi e
    cases hf
    have hp : kn K e := hp
    row_hasAny px
    cases e with
    | int i =>
      row_hasAny px
      refine if_d (fun h1 => ?_) (fun h1 => ?_)
      · row_hasAny px
        show M.sh (.bl (decide (i ≤ hi))) = M.sh (.bl (decide (lo ≤ i) && decide (i ≤ hi)))
        rw [decide_eq_true h1, Bool.true_and]
      · show M.sh (.bl false) = M.sh (.bl (decide (lo ≤ i) && decide (i ≤ hi)))
        rw [decide_eq_false h1, Bool.false_and]
    | _ => row_hasAny px; exact rfl

/-! ### check_number -/
def f_check_number (K : PySem.W.Frag) (a : Ad) : List M → Option Br
  | [.sh (.int lo), .sh (.int hi), .sh e] => some ⟨kn K e, fun m => m = .sh .non ∧ inRE lo hi e = true, fun c x => c = .ref a.BadNumber ∧ x = .none ∧ inRE lo hi e = false⟩
  | _ => none
theorem ok_check_number (T : Txt K mg a d) : FnOk P w K mg base (L2.CX P w) 3 a.check_number d.check_number ["low", "high", "value"] (spC (ctF (f_check_number K a))) := by
  refine T.F_check_number.okX sc_check_number (fun vs H Q E h => spF_len (fun ms b hf => by unfold f_check_number at hf; split at hf <;> first | rfl | cases hf) h) (fun cdv A outer s H vs Q E hr h => ⟨_, (pss_one (ps_if (pt_not (pt_val (pe_call (ok_is_between (P := P) T) (hr.mono (by omega)) rfl T.g_is_between T.F_is_between.kp T.b_is_between .nil pass0 (pa_cons (pv 0) (pa_cons (pv 1) (pa_cons (pv 2) pa_nil)))))) (pss_one (ps_raise0 rfl (takes_of rfl rfl rfl rfl) T.n_BadNumber T.g_BadNumber T.k_BadNumber T.e_BadNumber.exC T.ty_BadNumber)) pss_nil)), p_bodyF h fun ms b hf hp => ?_⟩)
  unfold f_check_number at hf
  split at hf
  rotate_right
  · cases hf
  · rename_i lo hi e
    cases hf
    have hp : kn K e := hp
    row_hasAny px
    cases q : inRE lo hi e with
    | true =>
      row_hasAny px
      exact ⟨rfl, rfl⟩
    | false =>
      row_hasAny px
      exact ⟨rfl, rfl, rfl⟩

/-! ### _reach_of -/
def f_reach_of (K : PySem.W.Frag) : List M → Option Br
  | [.sh (.int n), .sh e] => some ⟨kn K e ∧ 0 ≤ n ∧ n ≤ 200 ∧ ∃ es A, seqOf e = some es ∧ allPr es = some A ∧ Rising n A ∧ es.length ≤ 100000, fun r => ∀ es A, seqOf e = some es → allPr es = some A → ∃ rs, r = .ow (rs.map natE) ∧ IsReach n.toNat A rs, fun _ _ => False⟩
  | _ => none
theorem ok_reach_of (T : Txt K mg a d) : FnOk P w K mg base CX0 1 a.reach_of d.reach_of ["size", "pairs"] (spC (ctF (f_reach_of K))) := by
  refine T.F_reach_of.ok sc_reach_of (fun vs H Q E h => spF_len (fun ms b hf => by unfold f_reach_of at hf; split at hf <;> first | rfl | cases hf) h) (fun cdv A outer s H vs Q E hr h => ⟨_, (pss_cons (ps_setLc (i := 2) (own := [("a", 3)]) (g := gName 3) (tt := tYes) rfl sc_reach_of.nd rfl rfl (sw_true rfl rfl rfl (by decide +kernel)) (pi_range1 rfl T.m_range (pa_cons (pv 0) pa_nil)) (blkOk_by (N := ["size", "pairs", "reach", "a", "b", "pair"]) (sc := defScope s_reach_of) (by decide +kernel)) (fun _ _ _ _ _ => (pg_name (i := 3) sc_reach_of.nd rfl (by first | exact Or.inl rfl | exact Or.inr rfl))) (fun _ _ _ _ _ => pts_nil) (fun _ _ _ _ _ => (pe_op op_shl1 pe_int (pv 3))))
      (pss_cons (ps_for PassesOwn.never rfl (kp_list K (pe_callBK (k_sortR K) (by rfl) T.m_sorted bt_sorted (pa_cons (pe_lc (own := [("pair", 5)]) (g := gName 5) (tt := tYes) rfl sc_reach_of.nd (pi_or (kp_list K (pv 1)) (kp_tup K (pv 1))) (blkOk_by (N := ["size", "pairs", "reach", "a", "b", "pair"]) (sc := defScope s_reach_of) (by decide +kernel)) (fun _ _ _ _ _ => (pg_name (i := 5) sc_reach_of.nd rfl (by first | exact Or.inl rfl | exact Or.inr rfl))) (fun _ _ _ _ _ => pts_nil) (fun _ _ _ _ _ => (pe_tup (pa_cons (pe_ix (k_ix K) (pv 5) pe_int (fun _ _ => rfl)) (pa_cons (pe_ix (k_ix K) (pv 5) pe_int (fun _ _ => rfl)) pa_nil))))) pa_nil) (pk_cons pe_bl pk_nil))) (kg_tup (n := 2) K rfl (pgs_cons (pg_name (i := 3) sc_reach_of.nd rfl (by first | exact Or.inl rfl | exact Or.inr rfl)) (pgs_cons (pg_name (i := 4) sc_reach_of.nd rfl (by first | exact Or.inl rfl | exact Or.inr rfl)) pgs_nil))) (pss_one (ps_asg (pe_op op_or1 (pe_ix (k_ix K) (pv 2) (pv 3) (fun _ _ => rfl)) (pe_ix (k_ix K) (pv 2) (pv 4) (fun _ _ => rfl))) (pg_sub (pv 2) (pv 3) set_list))))
      (pss_one (ps_ret (pv 2))))), p_bodyF h fun ms b hf hp => ?_⟩)
  unfold f_reach_of at hf
  split at hf
  rotate_right
  · cases hf
  · rename_i n e
    cases hf
    obtain ⟨hk, n0, n1, es, A, hs, hA, hR, hz⟩ := (show kn K e ∧ 0 ≤ n ∧ n ≤ 200 ∧ ∃ es A, seqOf e = some es ∧ allPr es = some A ∧ Rising n A ∧ es.length ≤ 100000 from hp)
    have zl : sizeLine = 16777216 := sizeLine_eq
    obtain ⟨N, rfl⟩ := Int.eq_ofNat_of_zero_le n0
    row_hasAny px
    refine p_lc (fun _ i acc => acc = ((List.range i).map fun j => 2 ^ j).map natE) ?_
    row_hasAny px
    refine ⟨by rw [rng_len]; omega, rfl, ?_, ?_⟩
    · rintro i x acc hx rfl
      obtain ⟨hi, rfl⟩ := rng_at hx
      rw [Int.zero_add]
      row_hasAny px
      refine v_shl (shl_ok (n := 1) (by decide) (by omega)) ?_
      refine ⟨rfl, _, rfl, ?_⟩
      rw [List.range_succ, List.map_append, List.map_append, Int.one_mul]
      have e1 : (2 : Int) ^ i = ((2 ^ i : Nat) : Int) := by rw [Int.natCast_pow]; rfl
      rw [e1]
      rfl
    rintro acc rfl
    rw [rng_len]
    row_hasAny px
    refine q_for (fun L k ρ => ∃ (B : List (Int × Int)) (rs : List Nat) (x y z : M), L = B.map prE ∧ ρ = [.sh (.int (N : Int)), .sh e, .ow (rs.map natE), x, y, z] ∧ (∀ p, p ∈ B ↔ p ∈ A) ∧ (B.Pairwise fun p q => q.1 ≤ p.1) ∧ (rs.length = N ∧ ∀ a c : Nat, a < N → ((rs.getD a 0).testBit c = true ↔ (a : Int) = c ∨ ∃ b, ((a : Int), b) ∈ B.take k ∧ Rch A b c))) ?_
    row_hasAny px
    refine p_sortR ?_
    row_hasAny px
    refine p_lc (fun _ i acc => acc = (A.take i).map prE) ?_
    refine p_iseq rfl hs hk ?_
    obtain ⟨hl, hat⟩ := allPr_at hA
    refine ⟨by omega, rfl, ?_, ?_⟩
    · rintro i x acc hx rfl
      obtain ⟨p, hp1, hp2⟩ := hat i x hx
      have htk : A.take (i + 1) = A.take i ++ [p] := by
        rw [List.take_add_one, hp1]; rfl
      rcases prOf_cases hp2 with rfl | rfl
      · row_hasAny px
        exact ⟨rfl, _, rfl, by rw [htk, List.map_append]; rfl⟩
      · row_hasAny px
        exact ⟨rfl, _, rfl, by rw [htk, List.map_append]; rfl⟩
    rintro acc rfl
    rw [hl, List.take_length]
    row_hasAny px
    refine ⟨A, rfl, rfl, fun B hB hd => ?_⟩
    have hmem : ∀ p, p ∈ B ↔ p ∈ A := fun p => hB.mem_iff
    refine ⟨_, rfl, ⟨B, _, _, _, _, rfl, rfl, hmem, hd, reach_start⟩, ?_, ?_⟩
    · rintro i x ρ hx ⟨B', rs, u, v, z, hB', rfl, hm, hd', hr1, hr2⟩
      rw [hB', List.getElem?_map] at hx
      cases hq : B'[i]? with
      | none => rw [hq] at hx; cases hx
      | some p =>
        rw [hq] at hx
        cases Option.some.inj hx
        have hR1 := hR p ((hm p).mp (List.mem_of_getElem? hq))
        obtain ⟨k1, k2⟩ := reach_inv hR hm hd' i rs (Nat.le_of_lt (List.getElem?_eq_some_iff.mp hq).1) ⟨hr1, hr2⟩ p hq
        row_hasAny px
        refine ⟨p.1, _, _, rfl, rfl, natE_at hR1.1 (by omega), ?_⟩
        row_hasAny px
        refine ⟨p.2, _, _, rfl, rfl, natE_at (by omega) (by omega), ?_⟩
        row_hasAny px
        refine p_gsub ?_ ⟨_, rfl⟩
        row_hasAny px
        rw [bor_nat]
        refine ⟨p.1, _, _, _, rfl, rfl, rfl, ixN_nat hR1.1 (by rw [List.length_map]; omega), ?_⟩
        exact ⟨B', _, _, _, _, hB', congrArg (fun z => [M.sh (.int (N : Int)), .sh e, .ow z, _, _, _]) map_set_nat, hm, hd', k1, k2⟩
    · rintro ρ ⟨B', rs, u, v, z, hB', rfl, hm, hd', hr1, hr2⟩
      row_hasAny px
      have hlB : B'.length = (B.map prE).length := by rw [hB', List.length_map]
      intro es2 A2 h1 h2
      rw [hs] at h1
      cases h1
      rw [hA] at h2
      cases h2
      rw [← hlB] at hr2
      exact ⟨rs, rfl, reach_end hm ⟨hr1, hr2⟩⟩

/-! ### _is_rising_pair -/
/-- a rising pair of things below n -/
def okPair (n : Int) : Pl.E → Bool
  | .lst [x, y] => inRE 0 (n - 1) y && (match y with
    | .int b => inRE 0 (b - 1) x
    | _ => false)
  | .tup [x, y] => inRE 0 (n - 1) y && (match y with
    | .int b => inRE 0 (b - 1) x
    | _ => false)
  | _ => false
/-- a value and its members, of known kinds -/
def kn2 (K : PySem.W.Frag) (e : Pl.E) : Prop := kn K e ∧ match e with
  | .lst es => ∀ x ∈ es, kn K x
  | .tup es => ∀ x ∈ es, kn K x
  | .pr _ => False
  | _ => True
def f_is_rising_pair (K : PySem.W.Frag) : List M → Option Br
  | [.sh (.int n), .sh e] => some (brp (kn2 K e) (.sh (.bl (okPair n e))))
  | _ => none
theorem ok_is_rising_pair (T : Txt K mg a d) : FnOk P w K mg base CX0 3 a.is_rising_pair d.is_rising_pair ["size", "value"] (spC (ctF (f_is_rising_pair K))) := by
  refine T.F_is_rising_pair.ok sc_is_rising_pair (fun vs H Q E h => spF_len (fun ms b hf => by unfold f_is_rising_pair at hf; split at hf <;> first | rfl | cases hf) h) (fun cdv A outer s H vs Q E hr h => ⟨_, (pss_cons (ps_if (PW.pt (pw_or (pt_not (pt_val (pe_call (ok_is_sequence (P := P) T) (hr.mono (by omega)) rfl T.g_is_sequence T.F_is_sequence.kp T.b_is_sequence .nil pass0 (pa_cons (pv 1) pa_nil)))) (pw_or1 (pt_cmpR (k_ne K hr.units) (pe_callB (k_len K) (by rfl) T.m_len bt_len (pa_cons (pv 1) pa_nil)) pe_int (nomark _))))) (pss_one (ps_ret pe_bl)) pss_nil)
      (pss_one (ps_ret (pe_and (pe_call (ok_is_between (P := P) T) (hr.mono (by omega)) rfl T.g_is_between T.F_is_between.kp T.b_is_between .nil pass0 (pa_cons pe_int (pa_cons (pe_op op_sub (pv 0) pe_int) (pa_cons (pe_ix (k_ix K) (pv 1) pe_int (fun _ _ => rfl)) pa_nil)))) (pe_one (pe_call (ok_is_between (P := P) T) (hr.mono (by omega)) rfl T.g_is_between T.F_is_between.kp T.b_is_between .nil pass0 (pa_cons pe_int (pa_cons (pe_op op_sub (pe_ix (k_ix K) (pv 1) pe_int (fun _ _ => rfl)) pe_int) (pa_cons (pe_ix (k_ix K) (pv 1) pe_int (fun _ _ => rfl)) pa_nil))))))))), p_bodyF h fun ms b hf hp => ?_⟩)
  unfold f_is_rising_pair at hf
  split at hf
  rotate_right
  · cases hf
  · rename_i n e
    cases hf
    have hp : kn2 K e := hp
    have hp1 := hp.1
    row_hasAny px
    cases e with
    | lst es =>
      row_hasAny px
      refine if_nd (fun h => ?_) (fun h => ?_)
      · row_hasAny px
        match es, h with
        | [], _ => exact rfl
        | [_], _ => exact rfl
        | [_, _], h => exact absurd rfl h
        | _ :: _ :: _ :: _, _ => exact rfl
      · obtain ⟨x, y, rfl⟩ : ∃ x y, es = [x, y] := by
          match es, h with
          | [], h => simp at h
          | [_], h => simp at h
          | [x, y], _ => exact ⟨x, y, rfl⟩
          | _ :: _ :: _ :: _, h => simp at h; omega
        have kx : kn K x := hp.2 x (by simp)
        have ky : kn K y := hp.2 y (by simp)
        row_hasAny px
        cases hy : inRE 0 (n - 1) y with
        | true =>
          cases y with
          | int b =>
            row_hasAny px
            show M.sh (.bl (inRE 0 (b - 1) x)) = M.sh (.bl (inRE 0 (n - 1) (.int b) && inRE 0 (b - 1) x))
            rw [hy, Bool.true_and]
          | _ => cases hy
        | false =>
          row_hasAny px
          show M.sh (.bl false) = M.sh (.bl (inRE 0 (n - 1) y && _))
          rw [hy]; rfl
    | tup es =>
      row_hasAny px
      refine if_nd (fun h => ?_) (fun h => ?_)
      · row_hasAny px
        match es, h with
        | [], _ => exact rfl
        | [_], _ => exact rfl
        | [_, _], h => exact absurd rfl h
        | _ :: _ :: _ :: _, _ => exact rfl
      · obtain ⟨x, y, rfl⟩ : ∃ x y, es = [x, y] := by
          match es, h with
          | [], h => simp at h
          | [_], h => simp at h
          | [x, y], _ => exact ⟨x, y, rfl⟩
          | _ :: _ :: _ :: _, h => simp at h; omega
        have kx : kn K x := hp.2 x (by simp)
        have ky : kn K y := hp.2 y (by simp)
        row_hasAny px
        cases hy : inRE 0 (n - 1) y with
        | true =>
          cases y with
          | int b =>
            row_hasAny px
            show M.sh (.bl (inRE 0 (b - 1) x)) = M.sh (.bl (inRE 0 (n - 1) (.int b) && inRE 0 (b - 1) x))
            rw [hy, Bool.true_and]
          | _ => cases hy
        | false =>
          row_hasAny px
          show M.sh (.bl false) = M.sh (.bl (inRE 0 (n - 1) y && _))
          rw [hy]; rfl
    | pr P => exact hp.2.elim
    | _ => row_hasAny px ; exact rfl

/-! ### Order.__init__ -/
--@raises
--@used k Order
theorem okPair_pr {n : Int} {x : Pl.E} (h : okPair n x = true) : ∃ p, prOf x = some p ∧ 0 ≤ p.1 ∧ p.1 < p.2 ∧ p.2 < n := by
  have go : ∀ {x y : Pl.E}, (inRE 0 (n - 1) y && (match y with
    | .int b => inRE 0 (b - 1) x
    | _ => false)) = true → ∃ a b, x = .int a ∧ y = .int b ∧ 0 ≤ a ∧ a < b ∧ b < n := by
    intro x y h
    cases y with
    | int b =>
      cases x with
      | int a =>
        have h2 : (decide ((0 : Int) ≤ b) && decide (b ≤ n - 1) && (decide ((0 : Int) ≤ a) && decide (a ≤ b - 1))) = true := h
        simp only [Bool.and_eq_true, decide_eq_true_eq] at h2
        exact ⟨a, b, rfl, rfl, by omega, by omega, by omega⟩
      | _ => simp [inRE] at h
    | _ => simp [inRE] at h
  unfold okPair at h
  split at h
  · obtain ⟨a, b, rfl, rfl, h3⟩ := go h
    exact ⟨(a, b), rfl, h3⟩
  · obtain ⟨a, b, rfl, rfl, h3⟩ := go h
    exact ⟨(a, b), rfl, h3⟩
  · cases h
theorem okPair_all {n : Int} : ∀ {es : List Pl.E}, (∀ x ∈ es, okPair n x = true) → ∃ A, allPr es = some A ∧ Rising n A
  | [], _ => ⟨[], rfl, fun p h => nomatch h⟩
  | x :: es, h => by
    obtain ⟨p, h1, h2⟩ := okPair_pr (h x (List.mem_cons_self ..))
    obtain ⟨A, h3, h4⟩ := okPair_all fun y hy => h y (List.mem_cons_of_mem _ hy)
    refine ⟨p :: A, ?_, fun q hq => ?_⟩
    · show (match prOf x, allPr es with
        | some p, some A => some (p :: A)
        | _, _ => none) = _
      rw [h1, h3]
    · rcases List.mem_cons.mp hq with rfl | hq
      · exact h2
      · exact h4 q hq
theorem seq_is {e : Pl.E} : isSeqE e = (seqOf e).isSome := by cases e <;> rfl
/-- an order with these rows of bits -/
abbrev ordE (a : Ad) (rs : List Nat) : Pl.E := .ob a.Order [(("_reach" : Str), Pl.E.lst (rs.map natE))]
def f_Order__init__ (K : PySem.W.Frag) (a : Ad) : List M → Option BrI
  | [.sh e1, .sh e2] => some ⟨kn K e1 ∧ kn K e2 ∧ ∀ es, seqOf e2 = some es → (∀ x ∈ es, kn2 K x) ∧ es.length ≤ 100000,
      fun fs => ∃ n es A rs, e1 = .int n ∧ 0 ≤ n ∧ n ≤ 200 ∧ seqOf e2 = some es ∧ allPr es = some A ∧ Rising n A ∧ IsReach n.toNat A rs ∧ fs = [(("_reach" : Str), Pl.E.lst (rs.map natE))],
      fun cls xd => (inRE 0 200 e1 = false ∧ cls = .ref a.BadNumber ∧ xd = .none) ∨ (inRE 0 200 e1 = true ∧ seqOf e2 = none ∧ cls = .ref a.BadOrder ∧ xd = .one "bad_at" .non) ∨
        ∃ n es i x, e1 = .int n ∧ 0 ≤ n ∧ n ≤ 200 ∧ seqOf e2 = some es ∧ es[i]? = some x ∧ okPair n x = false ∧ (∀ (j : Nat) y, j < i → es[j]? = some y → okPair n y = true) ∧ cls = .ref a.BadOrder ∧ xd = .one "bad_at" (.int (i : Nat))⟩
  | _ => none
theorem ok_Order__init__ (T : Txt K mg a d) : FnOk P w K mg base (L2.CX P w) 4 a.Order__init__ d.Order__init__ ["self", "size", "pairs"] (spI a.Order (f_Order__init__ K a)) := by
  refine T.F_Order__init__.ok sc_Order__init__ (fun vs H Q E h => spI_len (fun ms b hf => by unfold f_Order__init__ at hf; split at hf <;> first | rfl | cases hf) h) (fun cdv A outer s H vs Q E hr h => ⟨_, (pss_cons (ps_expr (pe_call (ok_check_number (P := P) T) (hr.mono (by omega)) rfl T.g_check_number T.F_check_number.kp T.b_check_number .nil (passes_call (takes_of rfl rfl rfl rfl) (fun _ _ _ _ z => z)) (pa_cons pe_int (pa_cons (pe_glob (v := .int 200) rfl T.c_MOST_THINGS.choose_spec ⟨_, rfl⟩) (pa_cons (pv 1) pa_nil)))))
      (pss_cons (ps_if (pt_not (pt_val (pe_call (ok_is_sequence (P := P) T) (hr.mono (by omega)) rfl T.g_is_sequence T.F_is_sequence.kp T.b_is_sequence .nil pass0 (pa_cons (pv 2) pa_nil)))) (pss_one (ps_raise1 (f := "bad_at") rfl (takes_of rfl rfl rfl rfl) T.o_BadOrder T.i_BadOrder T.ti_BadOrder (ok_BadOrder__init__ (P := P) T) (hr.mono (by omega)) T.b_BadOrder__init__ T.g_BadOrder (pa_cons pe_non pa_nil) mono_cc)) pss_nil)
      (pss_cons (ps_for (passes_of rfl) rfl (pi_or (kp_enum K rfl T.m_enumerate (pa_cons (pv 2) pa_nil)) (kp_enumT K rfl T.m_enumerate (pa_cons (pv 2) pa_nil))) (kg_tup (n := 2) K rfl (pgs_cons (pg_name (i := 3) sc_Order__init__.nd rfl (by first | exact Or.inl rfl | exact Or.inr rfl)) (pgs_cons (pg_name (i := 4) sc_Order__init__.nd rfl (by first | exact Or.inl rfl | exact Or.inr rfl)) pgs_nil))) (pss_one (ps_if (pt_not (pt_val (pe_call (ok_is_rising_pair (P := P) T) (hr.mono (by omega)) rfl T.g_is_rising_pair T.F_is_rising_pair.kp T.b_is_rising_pair .nil pass0 (pa_cons (pv 1) (pa_cons (pv 4) pa_nil))))) (pss_one (ps_raise1 (f := "bad_at") rfl (takes_of rfl rfl rfl rfl) T.o_BadOrder T.i_BadOrder T.ti_BadOrder (ok_BadOrder__init__ (P := P) T) (hr.mono (by omega)) T.b_BadOrder__init__ T.g_BadOrder (pa_cons (pv 3) pa_nil) mono_cv)) pss_nil)))
      (pss_one (ps_fld (pv 0) (pe_call (ok_reach_of (P := P) T) (hr.mono (by omega)) rfl T.g_reach_of T.F_reach_of.kp T.b_reach_of .nil pass0 (pa_cons (pv 1) (pa_cons (pv 2) pa_nil))) rfl))))), p_init h fun x dx ms b hf hp => ?_⟩)
  unfold f_Order__init__ at hf
  split at hf
  rotate_right
  · cases hf
  · rename_i e1 e2
    cases hf
    obtain ⟨hk1, hk2, hk3⟩ := (show kn K e1 ∧ kn K e2 ∧ ∀ es, seqOf e2 = some es → (∀ x ∈ es, kn2 K x) ∧ es.length ≤ 100000 from hp)
    row_hasAny px
    refine ⟨_, rfl, hk1, fun cls xd hx => .inl ⟨hx.2.2, hx.1, hx.2.1⟩, fun m hm => ?_⟩
    obtain ⟨rfl, hin⟩ := (show m = .sh .non ∧ inRE 0 200 e1 = true from hm)
    obtain ⟨n, rfl, n0, n1⟩ : ∃ n, e1 = .int n ∧ 0 ≤ n ∧ n ≤ 200 := by
      cases e1 with
      | int n =>
        have h2 : (decide ((0 : Int) ≤ n) && decide (n ≤ 200)) = true := hin
        simp only [Bool.and_eq_true, decide_eq_true_eq] at h2
        exact ⟨n, rfl, h2⟩
      | _ => cases hin
    row_hasAny px
    rcases Option.eq_none_or_eq_some (seqOf e2) with hs | ⟨es, hs⟩
    · have e3 : isSeqE e2 = false := by rw [seq_is, hs]; rfl
      rw [e3]
      row_hasAny px
      exact .inr (.inl ⟨hin, hs, rfl, rfl⟩)
    have e3 : isSeqE e2 = true := by rw [seq_is, hs]; rfl
    rw [e3]
    obtain ⟨hk4, hz⟩ := hk3 es hs
    row_hasAny px
    refine q_for (fun L i ρ => (∀ (j : Nat) y, j < i → es[j]? = some y → okPair n y = true) ∧ ∃ u v, ρ = [.pt x a.Order dx [], .sh (.int n), .sh e2, u, v]) ?_
    refine p_ienumS rfl hs hk2 ?_
    refine ⟨⟨fun j y hj _ => absurd hj (Nat.not_lt_zero _), _, _, rfl⟩, ?_, ?_⟩
    · rintro i q ρ hq ⟨hok, u, v, rfl⟩
      obtain ⟨z, hz2, rfl⟩ := enm_at hq
      have hkz : kn2 K z := hk4 z (List.mem_of_getElem? hz2)
      row_hasAny px
      cases hv : okPair n z with
      | true =>
        row_hasAny px
        refine ⟨fun j y hj hy => ?_, _, _, rfl⟩
        rcases Nat.lt_or_ge j i with h1 | h1
        · exact hok j y h1 hy
        · have e : j = i := by omega
          subst e
          rw [hz2] at hy
          cases hy
          exact hv
      | false =>
        row_hasAny px
        exact .inr (.inr ⟨n, es, i, z, rfl, n0, n1, hs, hz2, hv, hok, rfl, rfl⟩)
    · rintro ρ ⟨hok, u, v, rfl⟩
      rw [enm_len] at hok
      obtain ⟨A, hA, hR⟩ := okPair_all (n := n) (es := es) fun y hy => by
        obtain ⟨j, hj⟩ := List.getElem?_of_mem hy
        exact hok j y (List.getElem?_eq_some_iff.mp hj).1 hj
      refine q_fld rfl T.is_Order.cl T.na_Order__reach ?_
      row_hasAny px
      refine ⟨_, rfl, ⟨hk2, n0, n1, es, A, hs, hA, hR, hz⟩, fun _ _ z => z.elim, fun m hm => ?_⟩
      obtain ⟨rs, rfl, hI⟩ := hm es A hs hA
      exact ⟨_, _, rfl, rfl, rfl, _, _, rfl, n, es, A, rs, rfl, n0, n1, hs, hA, hR, hI, rfl⟩
theorem okPairT {n : Int} {x : Pl.E} {p : Int × Int} (h : prOf x = some p) (h0 : 0 ≤ p.1) (h1 : p.1 < p.2) (h2 : p.2 < n) : okPair n x = true := by
  have key : (inRE 0 (n - 1) (.int p.2) && inRE 0 (p.2 - 1) (.int p.1)) = true := by
    show ((decide ((0 : Int) ≤ p.2) && decide (p.2 ≤ n - 1)) && (decide ((0 : Int) ≤ p.1) && decide (p.1 ≤ p.2 - 1))) = true
    rw [decide_eq_true (show (0 : Int) ≤ p.2 by omega), decide_eq_true (show p.2 ≤ n - 1 by omega), decide_eq_true h0, decide_eq_true (show p.1 ≤ p.2 - 1 by omega)]
    rfl
  rcases prOf_cases h with rfl | rfl <;> exact key
theorem seqOf_sq {e : Pl.E} {es : List Pl.E} (h : sq e = some es) : seqOf e = some es := by
  rcases sq_cases h with rfl | rfl <;> rfl
theorem plain_kn2 {K : PySem.W.Frag} {e : Pl.E} (h : plain e = true) : kn2 K e := by
  refine ⟨plain_kn h, ?_⟩
  cases e with
  | lst es => exact fun x hx => plain_kn (plains_mem h x hx)
  | tup es => exact fun x hx => plain_kn (plains_mem h x hx)
  | pr _ => cases h
  | _ => trivial
/-- an order made of rising pairs -/
theorem u_OrdS {K : PySem.W.Frag} {a : Ad} {N : Nat} {e2 : Pl.E} {es : List Pl.E} {A : List (Int × Int)} {R0 : List (Str × Pl.E) → Prop} (hN : N ≤ 200) (hs : sq e2 = some es) (hA : allPr es = some A) (hp : ∀ x ∈ es, plain x = true) (hz : es.length ≤ 100000) (R : Rising N A)
    (k : ∀ rs, IsReach N A rs → OrdT rs → R0 [(("_reach" : Str), Pl.E.lst (rs.map natE))]) : ∃ b, f_Order__init__ K a [.sh (.int (N : Int)), .sh e2] = some b ∧ b.pre ∧ (∀ cls xd, ¬ b.xp cls xd) ∧ ∀ fs, b.fl fs → R0 fs := by
  have hs2 := seqOf_sq hs
  refine ⟨_, rfl, ⟨trivial, by rcases sq_cases hs with rfl | rfl <;> trivial, fun es' h => ?_⟩, ?_, ?_⟩
  · rw [hs2] at h
    cases h
    exact ⟨fun x hx => plain_kn2 (hp x hx), hz⟩
  · have h200 : inRE 0 200 (.int (N : Int)) = true := by
      show (decide ((0 : Int) ≤ (N : Int)) && decide ((N : Int) ≤ 200)) = true
      rw [decide_eq_true (by omega), decide_eq_true (by omega)]
      rfl
    rintro cls xd (⟨h, _⟩ | ⟨_, h, _⟩ | ⟨n, es', i, x, e1, h0, h1, h2, h3, h4, _⟩)
    · rw [h200] at h; cases h
    · rw [hs2] at h; cases h
    · cases e1
      rw [hs2] at h2
      cases h2
      obtain ⟨p, g1, g2⟩ := (allPr_at hA).2 i x h3
      obtain ⟨r0, r1, r2⟩ := R p (List.mem_of_getElem? g1)
      rw [okPairT g2 r0 r1 r2] at h4
      cases h4
  · rintro fs ⟨n, es', A', rs, e1, h0, h1, h2, h3, h4, h5, rfl⟩
    cases e1
    rw [hs2] at h2
    cases h2
    rw [hA] at h3
    cases h3
    exact k rs (by simpa using h5) (IsReach.ordT (by simpa using h5) R hN)

/-! ### Order.__len__ -/
def f_Order__len__ (a : Ad) : List M → Option Br
  | [.sh (.ob C [(f, .lst es)])] => some (brp (C = a.Order ∧ f = "_reach") (.sh (.int (es.length : Int))))
  | _ => none
theorem ok_Order__len__ (T : Txt K mg a d) : FnOk P w K mg base CX0 1 a.Order__len__ d.Order__len__ ["self"] (spC (ctF (f_Order__len__ a))) := by
  refine T.F_Order__len__.ok sc_Order__len__ (fun vs H Q E h => spF_len (fun ms b hf => by unfold f_Order__len__ at hf; split at hf <;> first | rfl | cases hf) h) (fun cdv A outer s H vs Q E hr h => ⟨_, (pss_one (ps_ret (pe_callB (k_len K) (by rfl) T.m_len bt_len (pa_cons (kp_fld K (pv 0) rfl) pa_nil)))), p_bodyF h fun ms b hf hp => ?_⟩)
  unfold f_Order__len__ at hf
  split at hf
  rotate_right
  · cases hf
  · rename_i C f es
    cases hf
    obtain ⟨rfl, rfl⟩ := (show C = a.Order ∧ f = "_reach" from hp)
    have cl := T.is_Order.cl
    have na := T.na_Order__reach
    row_hasAny px
    exact rfl

/-! ### Order.__eq__ -/
def f_Order__eq__ (K : PySem.W.Frag) (a : Ad) : List M → Option Br
  | [.sh (.ob C [(f, .lst es)]), .sh (.ob C2 fs)] => some (brs ((∃ rs : List Nat, Pl.E.ob C [(f, .lst es)] = ordE a rs) ∧ ((∃ qs : List Nat, Pl.E.ob C2 fs = ordE a qs) ∨ isOf K a.Order (.ob C2 fs) false)) fun R =>
      (∀ rs qs : List Nat, Pl.E.ob C [(f, .lst es)] = ordE a rs → Pl.E.ob C2 fs = ordE a qs → R (.sh (.bl (decide (rs = qs))))) ∧ (isOf K a.Order (.ob C2 fs) false → R (.sh (.bl false))))
  | [.sh (.ob C [(f, .lst es)]), .sh e] => some (brp ((∃ rs : List Nat, Pl.E.ob C [(f, .lst es)] = ordE a rs) ∧ isOf K a.Order e false) (.sh (.bl false)))
  | _ => none
theorem ordE_inj {a : Ad} {rs qs : List Nat} (h : ordE a rs = ordE a qs) : rs = qs := by
  have h1 := (Pl.E.ob.inj h).2
  have h2 := (Prod.mk.inj (List.cons.inj h1).1).2
  have e := natsL_nat rs
  rw [Pl.E.lst.inj h2, natsL_nat] at e
  exact e.symm
theorem ok_Order__eq__ (T : Txt K mg a d) : FnOk P w K mg base CX0 1 a.Order__eq__ d.Order__eq__ ["self", "other"] (spC (ctF (f_Order__eq__ K a))) := by
  refine T.F_Order__eq__.ok sc_Order__eq__ (fun vs H Q E h => spF_len (fun ms b hf => by unfold f_Order__eq__ at hf; split at hf <;> first | rfl | cases hf) h) (fun cdv A outer s H vs Q E hr h => ⟨_, (pss_one (ps_ret (pe_and (pe_callB (k_isi K) (by rfl) T.m_isinstance bt_isinstance (pa_cons (pv 1) (pa_cons (pe_glob (v := .ref a.Order) rfl T.g_Order rfl) pa_nil))) (pe_one (pe_cmpR (k_eq K hr.units) (kp_fld K (pv 0) rfl) (kp_fld K (pv 1) rfl) (nomark _)))))), p_bodyF h fun ms b hf hp => ?_⟩)
  unfold f_Order__eq__ at hf
  split at hf
  rotate_right
  · cases hf
  · rename_i C f es C2 fs
    cases hf
    obtain ⟨⟨rs, h0⟩, h⟩ := (show (∃ rs : List Nat, Pl.E.ob C [(f, .lst es)] = ordE a rs) ∧ ((∃ qs : List Nat, Pl.E.ob C2 fs = ordE a qs) ∨ isOf K a.Order (.ob C2 fs) false) from hp)
    cases h0
    have cl := T.is_Order.cl
    have na := T.na_Order__reach
    rcases h with ⟨qs, h1⟩ | h
    · cases h1
      have iso : isOf K a.Order (ordE a qs) true := iso_self T.is_Order
      row_hasAny pu
      refine v_eqN ?_
      exact fun R k => k.1 rs qs rfl rfl
    · row_hasAny pu
      exact fun R k => k.2 h
  · rename_i C f es e hne
    cases hf
    obtain ⟨⟨rs, h0⟩, h⟩ := (show (∃ rs : List Nat, Pl.E.ob C [(f, .lst es)] = ordE a rs) ∧ isOf K a.Order e false from hp)
    cases h0
    row_hasAny pu
    exact rfl
theorem u_OrderEq {K : PySem.W.Frag} {a : Ad} {rs qs : List Nat} {R : M → Prop} (hi : InsK K a.Order) (k : R (.sh (.bl (decide (rs = qs))))) : ∃ b, f_Order__eq__ K a [.sh (ordE a rs), .sh (ordE a qs)] = some b ∧ b.pre ∧ (∀ cls xd, ¬ b.xp cls xd) ∧ ∀ m, b.post m → R m :=
  cbS rfl ⟨⟨rs, rfl⟩, .inl ⟨qs, rfl⟩⟩ ⟨fun rs' qs' h1 h2 => by
    rw [← ordE_inj h1, ← ordE_inj h2]
    exact k, fun h => absurd (iso_one hi h) Bool.false_ne_true⟩

/-! ### Order.__ne__ -/
--@hint self == other => own Order
theorem u_OrderEqN {K : PySem.W.Frag} {a : Ad} {rs : List Nat} {e : Pl.E} {R : M → Prop} (h : isOf K a.Order e false) (k : R (.sh (.bl false))) : ∃ b, f_Order__eq__ K a [.sh (ordE a rs), .sh e] = some b ∧ b.pre ∧ (∀ cls xd, ¬ b.xp cls xd) ∧ ∀ m, b.post m → R m := by
  cases e with
  | ob C fs => exact cbS rfl ⟨⟨rs, rfl⟩, .inr h⟩ ⟨fun rs' qs' h1 h2 => by
      obtain ⟨rfl, rfl⟩ := Pl.E.ob.inj h2
      obtain ⟨t, g1, g2⟩ := h
      exact absurd h2 (fun _ => by
        rcases g1 with ⟨_, g, _⟩ | ⟨_, _, g, g3, rfl⟩ | ⟨g, _⟩
        · cases g
        · cases g
          have := g3.self
          rw [this] at g2
          cases g2
        · cases g), fun _ => k⟩
  | _ => exact cb1 rfl ⟨⟨rs, rfl⟩, h⟩ k
def f_Order__ne__ (K : PySem.W.Frag) (a : Ad) : List M → Option Br
  | [.sh e1, .sh e2] => some ⟨(∃ rs : List Nat, e1 = ordE a rs) ∧ ((∃ qs : List Nat, e2 = ordE a qs) ∨ (isOf K a.Order e2 false ∧ (tyLE e2).isSome = true)), fun m => (∀ rs qs : List Nat, e1 = ordE a rs → e2 = ordE a qs → m = .sh (.bl (!decide (rs = qs)))) ∧ (isOf K a.Order e2 false → m = .sh (.bl true)), fun _ _ => False⟩
  | _ => none
theorem ok_Order__ne__ (T : Txt K mg a d) : FnOk P w K mg base CX0 2 a.Order__ne__ d.Order__ne__ ["self", "other"] (spC (ctF (f_Order__ne__ K a))) := by
  refine T.F_Order__ne__.ok sc_Order__ne__ (fun vs H Q E h => spF_len (fun ms b hf => by unfold f_Order__ne__ at hf; split at hf <;> first | rfl | cases hf) h) (fun cdv A outer s H vs Q E hr h => ⟨_, (pss_one (ps_ret (pe_not (pe_cmpR (op_own (by first | exact Or.inl rfl | exact Or.inr rfl) hr.units T.mt_Order__eq__ rfl (ok_Order__eq__ (P := P) T) (hr.mono (by omega)) T.b_Order__eq__ pass0 K) (pv 0) (pv 1) (nomark _))))), p_bodyF h fun ms b hf hp => ?_⟩)
  unfold f_Order__ne__ at hf
  split at hf
  rotate_right
  · cases hf
  · rename_i e1 e2
    cases hf
    obtain ⟨⟨rs, rfl⟩, h2⟩ := (show (∃ rs : List Nat, e1 = ordE a rs) ∧ ((∃ qs : List Nat, e2 = ordE a qs) ∨ (isOf K a.Order e2 false ∧ (tyLE e2).isSome = true)) from hp)
    have ins := T.is_Order
    rcases h2 with ⟨qs, rfl⟩ | ⟨h2, ht⟩
    · row_hasAny pu
      refine v_own (g := f_Order__eq__ K a) rfl late_self (u_OrderEq ins ?_)
      row_hasAny pu
      refine ⟨fun rs1 qs1 w1 w2 => ?_, fun h => absurd (iso_one ins h) Bool.false_ne_true⟩
      rw [← ordE_inj w1, ← ordE_inj w2]
    · obtain ⟨t, ht⟩ := Option.isSome_iff_exists.mp ht
      row_hasAny pu
      refine v_own (g := f_Order__eq__ K a) ht (late_iso h2 ht) (u_OrderEqN h2 ?_)
      row_hasAny pu
      refine ⟨fun rs1 qs1 w1 w2 => ?_, fun _ => rfl⟩
      subst w2
      exact absurd (iso_one ins h2) Bool.false_ne_true
theorem u_OrderNe {K : PySem.W.Frag} {a : Ad} {rs qs : List Nat} {R : M → Prop} (k : R (.sh (.bl (!decide (rs = qs))))) : ∃ b, f_Order__ne__ K a [.sh (ordE a rs), .sh (ordE a qs)] = some b ∧ b.pre ∧ (∀ cls xd, ¬ b.xp cls xd) ∧ ∀ m, b.post m → R m :=
  ⟨_, rfl, ⟨⟨rs, rfl⟩, .inl ⟨qs, rfl⟩⟩, fun _ _ z => z, fun m q => by rw [q.1 rs qs rfl rfl]; exact k⟩
/-! ### Order.size -/
def f_Order_size (a : Ad) : List M → Option Br
  | [.sh (.ob C [(f, .lst es)])] => some (brp (C = a.Order ∧ f = "_reach") (.sh (.int (es.length : Int))))
  | _ => none
theorem ok_Order_size (T : Txt K mg a d) : FnOk P w K mg base CX0 1 a.Order_size d.Order_size ["self"] (spC (ctF (f_Order_size a))) := by
  refine T.F_Order_size.ok sc_Order_size (fun vs H Q E h => spF_len (fun ms b hf => by unfold f_Order_size at hf; split at hf <;> first | rfl | cases hf) h) (fun cdv A outer s H vs Q E hr h => ⟨_, (pss_one (ps_ret (pe_callB (k_len K) (by rfl) T.m_len bt_len (pa_cons (kp_fld K (pv 0) rfl) pa_nil)))), p_bodyF h fun ms b hf hp => ?_⟩)
  unfold f_Order_size at hf
  split at hf
  rotate_right
  · cases hf
  · rename_i C f es
    cases hf
    obtain ⟨rfl, rfl⟩ := (show C = a.Order ∧ f = "_reach" from hp)
    have cl := T.is_Order.cl
    have na := T.na_Order__reach
    row_hasAny pu
    exact rfl

/-! ### things_in -/
def f_things_in : List M → Option Br
  | [.sh (.int n)] => some ⟨∃ m : Nat, n = m ∧ m < 2 ^ 1000, fun r => ∀ m : Nat, n = m → r = .ow ((bitsL m).map natE), fun _ _ => False⟩
  | _ => none
theorem ok_things_in (T : Txt K mg a d) : FnOk P w K mg base CX0 1 a.things_in d.things_in ["bits"] (spC (ctF f_things_in)) := by
  refine T.F_things_in.ok sc_things_in (fun vs H Q E h => spF_len (fun ms b hf => by unfold f_things_in at hf; split at hf <;> first | rfl | cases hf) h) (fun cdv A outer s H vs Q E hr h => ⟨_, (pss_one (ps_ret (pe_lc (own := [("thing", 1)]) (g := gName 1) rfl sc_things_in.nd (pi_range1 rfl T.m_range (pa_cons (pe_bits (pv 0)) pa_nil)) (blkOk_by (N := ["bits", "thing"]) (sc := defScope s_things_in) (by decide +kernel)) (fun _ _ _ _ _ => (pg_name (i := 1) sc_things_in.nd rfl (by first | exact Or.inl rfl | exact Or.inr rfl))) (fun _ _ _ _ _ => pts_one (pt_cmpR (k_eq K hr.units) (pe_op op_and1 (pe_op op_shr1 (pv 0) (pv 1)) pe_int) pe_int (nomark _))) (fun _ _ _ _ _ => (pv 1))))), p_bodyF h fun ms b hf hp => ?_⟩)
  unfold f_things_in at hf
  split at hf
  rotate_right
  · cases hf
  · rename_i n
    cases hf
    obtain ⟨m, rfl, hm⟩ := (show ∃ m : Nat, n = m ∧ m < 2 ^ 1000 from hp)
    have hb : Builtin.Int.intBits (m : Int) ≤ 1000 := PySem.intBits_le_iff.mpr (by rw [Int.natAbs_natCast]; exact hm)
    row_hasAny px
    refine p_lc (fun _ i acc => acc = ((List.range i).filter fun j => m.testBit j).map natE) ?_
    row_hasAny px
    have hl : (rng 0 ((Builtin.Int.intBits (m : Int) : Nat) : Int).toNat).length = Builtin.Int.intBits (m : Int) := by rw [rng_len, Int.toNat_natCast]
    have zl : sizeLine = 16777216 := sizeLine_eq
    refine ⟨by rw [hl]; omega, rfl, ?_, ?_⟩
    · rintro i x acc hx rfl
      obtain ⟨hi, rfl⟩ := rng_at hx
      rw [Int.zero_add]
      row_hasAny px
      refine v_shr ?_
      row_hasAny px
      rw [bit_eq, List.range_succ, List.filter_append, List.map_append]
      cases hb : m.testBit i with
      | true =>
        row_hasAny px
        exact ⟨rfl, _, rfl, by rw [List.filter_cons_of_pos hb]; rfl⟩
      | false =>
        row_hasAny px
        exact ⟨rfl, by rw [List.filter_cons_of_neg (by rw [hb]; exact Bool.false_ne_true)]; simp⟩
    · rintro acc rfl
      rw [hl]
      intro m' hm'
      have e : m = m' := by omega
      subst e
      rfl

/-! ### _next_above -/
def f_next_above : List M → Option Br
  | [.sh (.lst es), .sh (.int i)] => some ⟨∃ (rs : List Nat) (t : Nat), es = rs.map natE ∧ OrdT rs ∧ i = t ∧ t < rs.length, fun m => m = .ow ((nextL (natsL es) i.toNat).map natE), fun _ _ => False⟩
  | _ => none
theorem ok_next_above (T : Txt K mg a d) : FnOk P w K mg base CX0 2 a.next_above d.next_above ["reach", "a"] (spC (ctF f_next_above)) := by
  refine T.F_next_above.ok sc_next_above (fun vs H Q E h => spF_len (fun ms b hf => by unfold f_next_above at hf; split at hf <;> first | rfl | cases hf) h) (fun cdv A outer s H vs Q E hr h => ⟨_, (pss_cons (ps_setLc (i := 2) (own := [("b", 4)]) (g := gName 4) rfl sc_next_above.nd rfl rfl (sw_true rfl rfl rfl (by decide +kernel)) (kp_list K (pe_call (ok_things_in (P := P) T) (hr.mono (by omega)) rfl T.g_things_in T.F_things_in.kp T.b_things_in .nil pass0 (pa_cons (pe_ix (k_ix K) (pv 0) (pv 1) (fun _ _ => rfl)) pa_nil))) (blkOk_by (N := ["reach", "a", "higher", "beyond", "b"]) (sc := defScope s_next_above) (by decide +kernel)) (fun _ _ _ _ _ => (pg_name (i := 4) sc_next_above.nd rfl (by first | exact Or.inl rfl | exact Or.inr rfl))) (fun _ _ _ _ _ => pts_one (pt_cmpR (k_ne K hr.units) (pv 4) (pv 1) (nomark _))) (fun _ _ _ _ _ => (pv 4)))
      (pss_cons (ps_set (i := 3) sc_next_above.nd rfl (by first | exact Or.inl rfl | exact Or.inr rfl) pe_int)
      (pss_cons (ps_for PassesOwn.never rfl (pi_or (kp_list K (pv 2)) (kp_tup K (pv 2))) (pg_name (i := 4) sc_next_above.nd rfl (by first | exact Or.inl rfl | exact Or.inr rfl)) (pss_one (ps_set (i := 3) sc_next_above.nd rfl (by first | exact Or.inl rfl | exact Or.inr rfl) (pe_op op_or1 (pv 3) (pe_op op_xor1 (pe_ix (k_ix K) (pv 0) (pv 4) (fun _ _ => rfl)) (pe_op op_shl1 pe_int (pv 4)))))))
      (pss_one (ps_ret (pe_lc (own := [("b", 4)]) (g := gName 4) rfl sc_next_above.nd (pi_or (kp_list K (pv 2)) (kp_tup K (pv 2))) (blkOk_by (N := ["reach", "a", "higher", "beyond", "b"]) (sc := defScope s_next_above) (by decide +kernel)) (fun _ _ _ _ _ => (pg_name (i := 4) sc_next_above.nd rfl (by first | exact Or.inl rfl | exact Or.inr rfl))) (fun _ _ _ _ _ => pts_one (pt_cmpR (k_eq K hr.units) (pe_op op_and1 (pe_op op_shr1 (pv 3) (pv 4)) pe_int) pe_int (nomark _))) (fun _ _ _ _ _ => (pv 4)))))))), p_bodyF h fun ms b hf hp => ?_⟩)
  unfold f_next_above at hf
  split at hf
  rotate_right
  · cases hf
  · rename_i es i
    cases hf
    obtain ⟨rs, t, rfl, O, rfl, ht⟩ := (show ∃ (rs : List Nat) (t : Nat), es = rs.map natE ∧ OrdT rs ∧ i = t ∧ t < rs.length from hp)
    have zl : sizeLine = 16777216 := sizeLine_eq
    rw [natsL_nat, Int.toNat_natCast]
    have hlen := O.len
    have hb := bits_len (O.row200 t)
    row_hasAny pu
    refine p_lc (fun L i acc => L = (bitsL (rs.getD t 0)).map natE ∧ acc = (((bitsL (rs.getD t 0)).take i).filter fun b => b != t).map natE) ?_
    refine p_ilist ?_
    row_hasAny pu
    refine v_ixL (natE_at (r := rs) (by omega) (by omega)) ?_
    rw [Int.toNat_natCast]
    row_hasAny pu
    refine cbN rfl ⟨_, rfl, O.row t⟩ ?_
    intro m hm
    obtain rfl := hm _ rfl
    refine ⟨_, rfl, by rw [List.length_map]; omega, ⟨rfl, rfl⟩, ?_, ?_⟩
    · rintro j x acc hx ⟨_, rfl⟩
      rw [List.getElem?_map] at hx
      obtain ⟨q, hq, rfl⟩ := Option.map_eq_some_iff.mp hx
      have htk : (bitsL (rs.getD t 0)).take (j + 1) = (bitsL (rs.getD t 0)).take j ++ [q] := by rw [List.take_add_one, hq]; rfl
      rw [htk, List.filter_append, List.map_append]
      unfold natE
      row_hasAny pu
      by_cases e : q = t
      · refine if_f (by rw [decide_eq_true (by omega)]; rfl) ?_
        refine ⟨rfl, rfl, ?_⟩
        rw [List.filter_cons_of_neg (p := fun a => a != t) (by simp [e])]
        simp
      · refine if_t (by rw [decide_eq_false (by omega)]; rfl) ?_
        row_hasAny pu
        refine ⟨rfl, _, rfl, rfl, ?_⟩
        rw [List.filter_cons_of_pos (p := fun a => a != t) (by simp [e])]
        rfl
    · rintro acc ⟨_, rfl⟩
      rw [List.length_map, List.take_length]
      rw [show (bitsL (rs.getD t 0)).filter (fun b => b != t) = higherL rs t from rfl]
      have hH : (higherL rs t).length ≤ 200 := Nat.le_trans (List.length_filter_le ..) hb
      row_hasAny pu
      refine q_for (fun L k ρ => L = (higherL rs t).map natE ∧ ∃ z, ρ = [.sh (.lst (rs.map natE)), .sh (.int (t : Int)), .sh (.lst ((higherL rs t).map natE)), .sh (.int ((beyondN rs ((higherL rs t).take k) : Nat) : Int)), z]) ?_
      refine p_isqO rfl ?_
      refine ⟨⟨rfl, _, rfl⟩, ?_, ?_⟩
      · rintro k x ρ hx ⟨_, z, rfl⟩
        rw [List.getElem?_map] at hx
        obtain ⟨q, hq, rfl⟩ := Option.map_eq_some_iff.mp hx
        have hqm := mem_higher.mp (List.mem_of_getElem? hq)
        have hqn := (O.rng t q hqm.1).2
        have htk : (higherL rs t).take (k + 1) = (higherL rs t).take k ++ [q] := by rw [List.take_add_one, hq]; rfl
        unfold natE
        row_hasAny pu
        refine v_ixL (natE_at (r := rs) (by omega) (by omega)) ?_
        rw [Int.toNat_natCast]
        row_hasAny pu
        refine v_shl (shl_ok (n := 1) (by decide) (by omega)) ?_
        row_hasAny pu
        have e1 : (1 : Int) * 2 ^ q = ((2 ^ q : Nat) : Int) := by rw [Int.one_mul, Int.natCast_pow]; rfl
        rw [htk]
        refine ⟨rfl, .sh (.int (q : Int)), ?_⟩
        rw [e1, bxor_nat, bor_nat]
        unfold beyondN
        rw [List.foldl_append]
        rfl
      · rintro ρ ⟨_, z, rfl⟩
        rw [List.length_map, List.take_length]
        row_hasAny pu
        refine p_lc (fun L i acc => L = (higherL rs t).map natE ∧ acc = (((higherL rs t).take i).filter fun b => !(beyondN rs (higherL rs t)).testBit b).map natE) ?_
        refine p_isq rfl rfl ?_
        refine ⟨by rw [List.length_map]; omega, ⟨rfl, rfl⟩, ?_, ?_⟩
        · rintro j x acc hx ⟨_, rfl⟩
          rw [List.getElem?_map] at hx
          obtain ⟨q, hq, rfl⟩ := Option.map_eq_some_iff.mp hx
          have htk : (higherL rs t).take (j + 1) = (higherL rs t).take j ++ [q] := by rw [List.take_add_one, hq]; rfl
          rw [htk, List.filter_append, List.map_append]
          have hqm := mem_higher.mp (List.mem_of_getElem? hq)
          have hqn := (O.rng t q hqm.1).2
          unfold natE
          row_hasAny pu
          refine v_shr ?_
          row_hasAny pu
          rw [bit_eq0]
          cases hv : (beyondN rs (higherL rs t)).testBit q with
          | true =>
            row_hasAny pu
            refine ⟨rfl, rfl, ?_⟩
            rw [List.filter_cons_of_neg (by rw [hv]; decide)]
            simp
          | false =>
            row_hasAny pu
            refine ⟨rfl, _, rfl, rfl, ?_⟩
            rw [List.filter_cons_of_pos (by rw [hv]; rfl)]
            rfl
        · rintro acc ⟨_, rfl⟩
          rw [List.length_map, List.take_length]
          rfl

/-! ### Order.covers -/
def f_Order_covers (a : Ad) : List M → Option Br
  | [.sh (.ob C [(f, .lst es)])] => some ⟨OrdO a.Order C f es, fun m => m = .ow ((covL (natsL es) es.length).map prE), fun _ _ => False⟩
  | _ => none
theorem ok_Order_covers (T : Txt K mg a d) : FnOk P w K mg base CX0 3 a.Order_covers d.Order_covers ["self"] (spC (ctF (f_Order_covers a))) := by
  refine T.F_Order_covers.ok sc_Order_covers (fun vs H Q E h => spF_len (fun ms b hf => by unfold f_Order_covers at hf; split at hf <;> first | rfl | cases hf) h) (fun cdv A outer s H vs Q E hr h => ⟨_, (pss_one (ps_ret (pe_lc2 (own := [("a", 1), ("b", 2)]) (g := gName 1) (tt := tYes) (g1 := gName 2) (tt1 := tYes) (vs1 := [2]) rfl sc_Order_covers.nd (pi_range1 rfl T.m_range (pa_cons (pe_callB (k_len K) (by rfl) T.m_len bt_len (pa_cons (kp_fld K (pv 0) rfl) pa_nil)) pa_nil)) (blkOk_by (N := ["self", "a", "b"]) (sc := defScope s_Order_covers) (by decide +kernel)) (by decide) (fun _ _ _ _ _ => (pg_name (i := 1) sc_Order_covers.nd rfl (by first | exact Or.inl rfl | exact Or.inr rfl))) (fun _ _ _ _ _ => pts_nil) (fun _ _ _ _ _ => (kp_list K (pe_call (ok_next_above (P := P) T) (hr.mono (by omega)) rfl T.g_next_above T.F_next_above.kp T.b_next_above .nil pass0 (pa_cons (kp_fld K (pv 0) rfl) (pa_cons (pv 1) pa_nil))))) (fun _ _ _ _ _ => (pg_name (i := 2) sc_Order_covers.nd rfl (by first | exact Or.inl rfl | exact Or.inr rfl))) (fun _ _ _ _ _ => pts_nil) (fun _ _ _ _ _ => (pe_tup (pa_cons (pv 1) (pa_cons (pv 2) pa_nil))))))), p_bodyF h fun ms b hf hp => ?_⟩)
  unfold f_Order_covers at hf
  split at hf
  rotate_right
  · cases hf
  · rename_i C f es
    cases hf
    obtain ⟨rfl, rfl, rs, rfl, O⟩ := (show OrdO a.Order C f es from hp)
    have zl : sizeLine = 16777216 := sizeLine_eq
    rw [natsL_nat, List.length_map]
    have hlen := O.len
    have hlen2 : ((rs.map natE).length : Int) ≤ 200 := by rw [List.length_map]; omega
    have cl := T.is_Order.cl
    have na := T.na_Order__reach
    row_hasAny pu
    refine p_flat (fun t => ((nextL rs t).map fun b : Nat => ((t : Int), (b : Int))).map prE) 200 ?_ (by decide)
    row_hasAny pu
    refine ⟨fun i _ => by rw [List.length_map, List.length_map]; exact next_len O i, by rw [rng_len, List.length_map]; omega, ?_, ?_⟩
    · intro i e he
      obtain ⟨hi, rfl⟩ := rng_at he
      rw [List.length_map] at hi
      row_hasAny pu
      refine ⟨_, rfl, ⟨rs, i, rfl, O, by omega, by omega⟩, fun _ _ z => z.elim, fun m hm => ?_⟩
      obtain rfl := hm
      refine ⟨_, rfl, by rw [List.length_map, List.length_map, List.length_map, natsL_nat, show ((0 : Int) + (i : Int)).toNat = i by omega], ?_, rfl⟩
      intro j e1 he1
      rw [natsL_nat, show ((0 : Int) + (i : Int)).toNat = i by omega, List.getElem?_map] at he1
      obtain ⟨q, hq, rfl⟩ := Option.map_eq_some_iff.mp he1
      row_hasAny pu
      refine ⟨rfl, _, rfl, ?_⟩
      rw [List.getElem?_map, List.getElem?_map, hq, Int.zero_add]
      rfl
    · show M.ow _ = M.ow _
      rw [rng_len, Int.toNat_natCast, List.length_map]
      unfold covL
      rw [List.map_flatMap]

/-! ### check_thing -/
--@hint len(order) => own Order
def f_check_thing (K : PySem.W.Frag) (a : Ad) : List M → Option Br
  | [.sh (.ob C [(f, .lst es)]), .sh e] => some ⟨C = a.Order ∧ f = "_reach" ∧ es.length ≤ 200 ∧ kn K e, fun m => m = .sh .non ∧ inRE 0 (es.length - 1 : Int) e = true, fun cls xd => cls = .ref a.BadNumber ∧ xd = .none ∧ inRE 0 (es.length - 1 : Int) e = false⟩
  | _ => none
theorem ok_check_thing (T : Txt K mg a d) : FnOk P w K mg base (L2.CX P w) 4 a.check_thing d.check_thing ["order", "thing"] (spC (ctF (f_check_thing K a))) := by
  refine T.F_check_thing.okX sc_check_thing (fun vs H Q E h => spF_len (fun ms b hf => by unfold f_check_thing at hf; split at hf <;> first | rfl | cases hf) h) (fun cdv A outer s H vs Q E hr h => ⟨_, (pss_one (ps_expr (pe_call (ok_check_number (P := P) T) (hr.mono (by omega)) rfl T.g_check_number T.F_check_number.kp T.b_check_number .nil (passes_call (takes_of rfl rfl rfl rfl) (fun _ _ _ _ z => z)) (pa_cons pe_int (pa_cons (pe_op op_sub (pe_callB (call_lenI T.mt_Order__len__ (ok_Order__len__ (P := P) T) (hr.mono (by omega)) T.b_Order__len__) (by rfl) T.m_len bt_len (pa_cons (pv 0) pa_nil)) pe_int) (pa_cons (pv 1) pa_nil)))))), p_bodyF h fun ms b hf hp => ?_⟩)
  unfold f_check_thing at hf
  split at hf
  rotate_right
  · cases hf
  · rename_i C f es e
    cases hf
    obtain ⟨rfl, rfl, hz, hk⟩ := (show C = a.Order ∧ f = "_reach" ∧ es.length ≤ 200 ∧ kn K e from hp)
    row_hasAny px
    refine v_lenI (g := f_Order__len__ a) rfl ⟨rfl, rfl⟩ (by omega) (by omega) ?_
    row_hasAny px
    exact ⟨_, rfl, hk, fun cls xd h => h, fun m h => ⟨rfl, h.2⟩⟩

/-! ### Order.at_or_below -/
def f_Order_at_or_below (K : PySem.W.Frag) (a : Ad) : List M → Option Br
  | [.sh (.ob C [(f, .lst es)]), .sh e1, .sh e2] => some ⟨OrdO a.Order C f es ∧ kn K e1 ∧ kn K e2, fun m => ∃ x y : Nat, e1 = .int (x : Int) ∧ e2 = .int (y : Int) ∧ x < es.length ∧ y < es.length ∧ m = .sh (.bl (bt (natsL es) x y)),
      fun cls xd => cls = .ref a.BadNumber ∧ xd = .none ∧ (inRE 0 (es.length - 1 : Int) e1 = false ∨ inRE 0 (es.length - 1 : Int) e2 = false)⟩
  | _ => none
theorem ok_Order_at_or_below (T : Txt K mg a d) : FnOk P w K mg base (L2.CX P w) 5 a.Order_at_or_below d.Order_at_or_below ["self", "a", "b"] (spC (ctF (f_Order_at_or_below K a))) := by
  refine T.F_Order_at_or_below.okX sc_Order_at_or_below (fun vs H Q E h => spF_len (fun ms b hf => by unfold f_Order_at_or_below at hf; split at hf <;> first | rfl | cases hf) h) (fun cdv A outer s H vs Q E hr h => ⟨_, (pss_cons (ps_expr (pe_call (ok_check_thing (P := P) T) (hr.mono (by omega)) rfl T.g_check_thing T.F_check_thing.kp T.b_check_thing .nil (passes_call (takes_of rfl rfl rfl rfl) (fun _ _ _ _ z => z)) (pa_cons (pv 0) (pa_cons (pv 1) pa_nil))))
      (pss_cons (ps_expr (pe_call (ok_check_thing (P := P) T) (hr.mono (by omega)) rfl T.g_check_thing T.F_check_thing.kp T.b_check_thing .nil (passes_call (takes_of rfl rfl rfl rfl) (fun _ _ _ _ z => z)) (pa_cons (pv 0) (pa_cons (pv 2) pa_nil))))
      (pss_one (ps_ret (pe_cmpR (k_eq K hr.units) (pe_op op_and1 (pe_op op_shr1 (pe_ix (k_ix K) (kp_fld K (pv 0) rfl) (pv 1) (fun _ _ => rfl)) (pv 2)) pe_int) pe_int (nomark _)))))), p_bodyF h fun ms b hf hp => ?_⟩)
  unfold f_Order_at_or_below at hf
  split at hf
  rotate_right
  · cases hf
  · rename_i C f es e1 e2
    cases hf
    obtain ⟨⟨rfl, rfl, rs, rfl, O⟩, hk1, hk2⟩ := (show OrdO a.Order C f es ∧ kn K e1 ∧ kn K e2 from hp)
    have hz := O.len
    have cl := T.is_Order.cl
    have na := T.na_Order__reach
    rw [natsL_nat]
    row_hasAny pu
    refine ⟨_, rfl, ⟨rfl, rfl, by rw [List.length_map]; exact hz, hk1⟩, fun cls xd h => ⟨h.1, h.2.1, .inl h.2.2⟩, fun m h => ?_⟩
    obtain ⟨rfl, hi1⟩ := h
    row_hasAny pu
    refine ⟨_, rfl, ⟨rfl, rfl, by rw [List.length_map]; exact hz, hk2⟩, fun cls xd h => ⟨h.1, h.2.1, .inr h.2.2⟩, fun m h => ?_⟩
    obtain ⟨rfl, hi2⟩ := h
    rw [List.length_map] at hi1 hi2
    obtain ⟨x, rfl, _, hx⟩ := inRE_nat hi1 (by decide)
    obtain ⟨y, rfl, _, hy⟩ := inRE_nat hi2 (by decide)
    row_hasAny pu
    refine v_ixL (natE_at (r := rs) (by omega) (by omega)) ?_
    rw [Int.toNat_natCast]
    row_hasAny pu
    refine v_shr ?_
    row_hasAny pu
    rw [bit_eq]
    exact ⟨x, y, rfl, rfl, by rw [List.length_map]; omega, by rw [List.length_map]; omega, rfl⟩

/-! ### check_order -/
def f_check_order (K : PySem.W.Frag) (a : Ad) : List M → Option Br
  | [.sh e] => some ⟨∃ b, isOf K a.Order e b, fun m => m = .sh .non ∧ isOf K a.Order e true, fun cls xd => cls = .ref a.BadOrder ∧ xd = .one "bad_at" .non ∧ isOf K a.Order e false⟩
  | _ => none
theorem ok_check_order (T : Txt K mg a d) : FnOk P w K mg base (L2.CX P w) 3 a.check_order d.check_order ["order"] (spC (ctF (f_check_order K a))) := by
  refine T.F_check_order.okX sc_check_order (fun vs H Q E h => spF_len (fun ms b hf => by unfold f_check_order at hf; split at hf <;> first | rfl | cases hf) h) (fun cdv A outer s H vs Q E hr h => ⟨_, (pss_one (ps_if (pt_not (pt_val (pe_callB (k_isi K) (by rfl) T.m_isinstance bt_isinstance (pa_cons (pv 0) (pa_cons (pe_glob (v := .ref a.Order) rfl T.g_Order rfl) pa_nil))))) (pss_one (ps_raise1 (f := "bad_at") rfl (takes_of rfl rfl rfl rfl) T.o_BadOrder T.i_BadOrder T.ti_BadOrder (ok_BadOrder__init__ (P := P) T) (hr.mono (by omega)) T.b_BadOrder__init__ T.g_BadOrder (pa_cons pe_non pa_nil) mono_cc)) pss_nil)), p_bodyF h fun ms b hf hp => ?_⟩)
  unfold f_check_order at hf
  split at hf
  rotate_right
  · cases hf
  · rename_i e
    cases hf
    obtain ⟨b, ho⟩ := (show ∃ b, isOf K a.Order e b from hp)
    row_hasAny px
    cases b with
    | true =>
      row_hasAny px
      exact ⟨rfl, ho⟩
    | false =>
      row_hasAny px
      exact ⟨rfl, rfl, ho⟩

/-! ### _is_place_pair -/
/-- two places below n -/
def okPP (n : Int) : Pl.E → Bool
  | .lst [x, y] => inRE 0 (n - 1) x && inRE 0 (n - 1) y
  | .tup [x, y] => inRE 0 (n - 1) x && inRE 0 (n - 1) y
  | _ => false
def f_is_place_pair (K : PySem.W.Frag) : List M → Option Br
  | [.sh (.int n), .sh e] => some (brp (kn2 K e) (.sh (.bl (okPP n e))))
  | _ => none
theorem ok_is_place_pair (T : Txt K mg a d) : FnOk P w K mg base CX0 3 a.is_place_pair d.is_place_pair ["places", "value"] (spC (ctF (f_is_place_pair K))) := by
  refine T.F_is_place_pair.ok sc_is_place_pair (fun vs H Q E h => spF_len (fun ms b hf => by unfold f_is_place_pair at hf; split at hf <;> first | rfl | cases hf) h) (fun cdv A outer s H vs Q E hr h => ⟨_, (pss_cons (ps_if (PW.pt (pw_or (pt_not (pt_val (pe_call (ok_is_sequence (P := P) T) (hr.mono (by omega)) rfl T.g_is_sequence T.F_is_sequence.kp T.b_is_sequence .nil pass0 (pa_cons (pv 1) pa_nil)))) (pw_or1 (pt_cmpR (k_ne K hr.units) (pe_callB (k_len K) (by rfl) T.m_len bt_len (pa_cons (pv 1) pa_nil)) pe_int (nomark _))))) (pss_one (ps_ret pe_bl)) pss_nil)
      (pss_one (ps_ret (pe_and (pe_call (ok_is_between (P := P) T) (hr.mono (by omega)) rfl T.g_is_between T.F_is_between.kp T.b_is_between .nil pass0 (pa_cons pe_int (pa_cons (pe_op op_sub (pv 0) pe_int) (pa_cons (pe_ix (k_ix K) (pv 1) pe_int (fun _ _ => rfl)) pa_nil)))) (pe_one (pe_call (ok_is_between (P := P) T) (hr.mono (by omega)) rfl T.g_is_between T.F_is_between.kp T.b_is_between .nil pass0 (pa_cons pe_int (pa_cons (pe_op op_sub (pv 0) pe_int) (pa_cons (pe_ix (k_ix K) (pv 1) pe_int (fun _ _ => rfl)) pa_nil))))))))), p_bodyF h fun ms b hf hp => ?_⟩)
  unfold f_is_place_pair at hf
  split at hf
  rotate_right
  · cases hf
  · rename_i n e
    cases hf
    have hp : kn2 K e := hp
    have hp1 := hp.1
    row_hasAny px
    cases e with
    | lst es =>
      row_hasAny px
      refine if_nd (fun h => ?_) (fun h => ?_)
      · row_hasAny px
        match es, h with
        | [], _ => exact rfl
        | [_], _ => exact rfl
        | [_, _], h => exact absurd rfl h
        | _ :: _ :: _ :: _, _ => exact rfl
      · obtain ⟨x, y, rfl⟩ : ∃ x y, es = [x, y] := by
          match es, h with
          | [], h => simp at h
          | [_], h => simp at h
          | [x, y], _ => exact ⟨x, y, rfl⟩
          | _ :: _ :: _ :: _, h => simp at h; omega
        have kx : kn K x := hp.2 x (by simp)
        have ky : kn K y := hp.2 y (by simp)
        row_hasAny px
        cases hy : inRE 0 (n - 1) x with
        | true =>
          row_hasAny px
          show M.sh (.bl (inRE 0 (n - 1) y)) = M.sh (.bl (inRE 0 (n - 1) x && inRE 0 (n - 1) y))
          rw [hy, Bool.true_and]
        | false =>
          row_hasAny px
          show M.sh (.bl false) = M.sh (.bl (inRE 0 (n - 1) x && _))
          rw [hy]; rfl
    | tup es =>
      row_hasAny px
      refine if_nd (fun h => ?_) (fun h => ?_)
      · row_hasAny px
        match es, h with
        | [], _ => exact rfl
        | [_], _ => exact rfl
        | [_, _], h => exact absurd rfl h
        | _ :: _ :: _ :: _, _ => exact rfl
      · obtain ⟨x, y, rfl⟩ : ∃ x y, es = [x, y] := by
          match es, h with
          | [], h => simp at h
          | [_], h => simp at h
          | [x, y], _ => exact ⟨x, y, rfl⟩
          | _ :: _ :: _ :: _, h => simp at h; omega
        have kx : kn K x := hp.2 x (by simp)
        have ky : kn K y := hp.2 y (by simp)
        row_hasAny px
        cases hy : inRE 0 (n - 1) x with
        | true =>
          row_hasAny px
          show M.sh (.bl (inRE 0 (n - 1) y)) = M.sh (.bl (inRE 0 (n - 1) x && inRE 0 (n - 1) y))
          rw [hy, Bool.true_and]
        | false =>
          row_hasAny px
          show M.sh (.bl false) = M.sh (.bl (inRE 0 (n - 1) x && _))
          rw [hy]; rfl
    | pr P => exact hp.2.elim
    | _ => row_hasAny px ; exact rfl

/-! ### Web.__init__ -/
--@raises
--@hint {} => tuplekeys
--@hint known[arrow[0], arrow[1]] => dict
--@hint len(known) => =(pe_callB call_len_dT (by rfl) T.m_len bt_len (pa_cons $known pa_nil))
--@hint sorted(known) => =(pe_callB (cr_sortedDT rfl) (by rfl) T.m_sorted bt_sorted (pa_cons $known pa_nil))
--@used m sorted
--@used m len
--@used k Web
theorem okPP_pr {n : Int} {x : Pl.E} (h : okPP n x = true) : ∃ p, prOf x = some p ∧ 0 ≤ p.1 ∧ p.1 < n ∧ 0 ≤ p.2 ∧ p.2 < n := by
  have go : ∀ {x y : Pl.E}, (inRE 0 (n - 1) x && inRE 0 (n - 1) y) = true → ∃ a b, x = .int a ∧ y = .int b ∧ 0 ≤ a ∧ a < n ∧ 0 ≤ b ∧ b < n := by
    intro x y h
    obtain ⟨h1, h2⟩ := Bool.and_eq_true_iff.mp h
    cases x with
    | int a =>
      cases y with
      | int b =>
        have h1 : (decide ((0 : Int) ≤ a) && decide (a ≤ n - 1)) = true := h1
        have h2 : (decide ((0 : Int) ≤ b) && decide (b ≤ n - 1)) = true := h2
        simp only [Bool.and_eq_true, decide_eq_true_eq] at h1 h2
        exact ⟨a, b, rfl, rfl, by omega, by omega, by omega, by omega⟩
      | _ => simp [inRE] at h2
    | _ => simp [inRE] at h1
  unfold okPP at h
  split at h
  · obtain ⟨a, b, rfl, rfl, h3⟩ := go h
    exact ⟨(a, b), rfl, h3⟩
  · obtain ⟨a, b, rfl, rfl, h3⟩ := go h
    exact ⟨(a, b), rfl, h3⟩
  · cases h
theorem seq_isW {e : Pl.E} : isSeqE e = (seqOf e).isSome := by cases e <;> rfl
def f_Web__init__ (K : PySem.W.Frag) (a : Ad) : List M → Option BrI
  | [.sh e1, .sh e2] => some ⟨kn K e1 ∧ kn K e2 ∧ ∀ es, seqOf e2 = some es → (∀ x ∈ es, kn2 K x) ∧ es.length ≤ 100000,
      fun fs => ∃ (n : Nat) (es : List Pl.E) (A : List (Int × Int)), e1 = .int (n : Int) ∧ n ≤ 2000 ∧ seqOf e2 = some es ∧ allPr es = some A ∧ Within n A ∧ (arrS A).length ≤ 2000 ∧ fs = webF n (ddP A) (arrS A),
      fun cls xd => (inRE 0 2000 e1 = false ∧ cls = .ref a.BadNumber ∧ xd = .none) ∨ (inRE 0 2000 e1 = true ∧ seqOf e2 = none ∧ cls = .ref a.BadWeb ∧ xd = .one "bad_at" .non) ∨
        (∃ (n : Nat) (es : List Pl.E) (i : Nat) (x : Pl.E), e1 = .int (n : Int) ∧ n ≤ 2000 ∧ seqOf e2 = some es ∧ es[i]? = some x ∧ okPP n x = false ∧ (∀ (j : Nat) y, j < i → es[j]? = some y → okPP n y = true) ∧ cls = .ref a.BadWeb ∧ xd = .one "bad_at" (.int (i : Nat))) ∨
        ∃ (n : Nat) (es : List Pl.E) (A : List (Int × Int)), e1 = .int (n : Int) ∧ n ≤ 2000 ∧ seqOf e2 = some es ∧ allPr es = some A ∧ Within n A ∧ 2000 < (arrS A).length ∧ cls = .ref a.TooMany ∧ xd = .one "most" (.int 2000)⟩
  | _ => none
theorem ok_Web__init__ (T : Txt K mg a d) : FnOk P w K mg base (L2.CX P w) 4 a.Web__init__ d.Web__init__ ["self", "places", "arrows"] (spI a.Web (f_Web__init__ K a)) := by
  refine T.F_Web__init__.ok sc_Web__init__ (fun vs H Q E h => spI_len (fun ms b hf => by unfold f_Web__init__ at hf; split at hf <;> first | rfl | cases hf) h) (fun cdv A outer s H vs Q E hr h => ⟨_, (pss_cons (ps_expr (pe_call (ok_check_number (P := P) T) (hr.mono (by omega)) rfl T.g_check_number T.F_check_number.kp T.b_check_number .nil (passes_call (takes_of rfl rfl rfl rfl) (fun _ _ _ _ z => z)) (pa_cons pe_int (pa_cons (pe_glob (v := .int 2000) rfl T.c_MOST_PLACES.choose_spec ⟨_, rfl⟩) (pa_cons (pv 1) pa_nil)))))
      (pss_cons (ps_if (pt_not (pt_val (pe_call (ok_is_sequence (P := P) T) (hr.mono (by omega)) rfl T.g_is_sequence T.F_is_sequence.kp T.b_is_sequence .nil pass0 (pa_cons (pv 2) pa_nil)))) (pss_one (ps_raise1 (f := "bad_at") rfl (takes_of rfl rfl rfl rfl) T.o_BadWeb T.i_BadWeb T.ti_BadWeb (ok_BadWeb__init__ (P := P) T) (hr.mono (by omega)) T.b_BadWeb__init__ T.g_BadWeb (pa_cons pe_non pa_nil) mono_cc)) pss_nil)
      (pss_cons (ps_set (i := 3) sc_Web__init__.nd rfl (by first | exact Or.inl rfl | exact Or.inr rfl) pe_dnewT)
      (pss_cons (ps_for (passes_of rfl) rfl (pi_or (kp_enum K rfl T.m_enumerate (pa_cons (pv 2) pa_nil)) (kp_enumT K rfl T.m_enumerate (pa_cons (pv 2) pa_nil))) (kg_tup (n := 2) K rfl (pgs_cons (pg_name (i := 4) sc_Web__init__.nd rfl (by first | exact Or.inl rfl | exact Or.inr rfl)) (pgs_cons (pg_name (i := 5) sc_Web__init__.nd rfl (by first | exact Or.inl rfl | exact Or.inr rfl)) pgs_nil))) (pss_cons (ps_if (pt_not (pt_val (pe_call (ok_is_place_pair (P := P) T) (hr.mono (by omega)) rfl T.g_is_place_pair T.F_is_place_pair.kp T.b_is_place_pair .nil pass0 (pa_cons (pv 1) (pa_cons (pv 5) pa_nil))))) (pss_one (ps_raise1 (f := "bad_at") rfl (takes_of rfl rfl rfl rfl) T.o_BadWeb T.i_BadWeb T.ti_BadWeb (ok_BadWeb__init__ (P := P) T) (hr.mono (by omega)) T.b_BadWeb__init__ T.g_BadWeb (pa_cons (pv 4) pa_nil) mono_cv)) pss_nil)
      (pss_one (ps_dput (hu_of hr) (pv 3) (pe_tup (pa_cons (pe_ix (k_ix K) (pv 5) pe_int (fun _ _ => rfl)) (pa_cons (pe_ix (k_ix K) (pv 5) pe_int (fun _ _ => rfl)) pa_nil))) pe_bl rfl))))
      (pss_cons (ps_if (pt_cmpR op_gt (pe_callB call_len_dT (by rfl) T.m_len bt_len (pa_cons (pv 3) pa_nil)) (pe_glob (v := .int 2000) rfl T.c_MOST_ARROWS.choose_spec ⟨_, rfl⟩) (nomark _)) (pss_one (ps_raise1 (f := "most") rfl (takes_of rfl rfl rfl rfl) T.o_TooMany T.i_TooMany T.ti_TooMany (ok_TooMany__init__ (P := P) T) (hr.mono (by omega)) T.b_TooMany__init__ T.g_TooMany (pa_cons (pe_glob (v := .int 2000) rfl T.c_MOST_ARROWS.choose_spec ⟨_, rfl⟩) pa_nil) mono_cc)) pss_nil)
      (pss_cons (ps_fld (pv 0) (pv 3) rfl)
      (pss_cons (ps_fld (pv 0) (pe_callB (cr_sortedDT rfl) (by rfl) T.m_sorted bt_sorted (pa_cons (pv 3) pa_nil)) rfl)
      (pss_cons (ps_fld (pv 0) (pe_lc (own := [("_", 8)]) (g := gName 8) (tt := tYes) rfl sc_Web__init__.nd (pi_range1 rfl T.m_range (pa_cons (pv 1) pa_nil)) (blkOk_by (N := ["self", "places", "arrows", "known", "i", "arrow", "u", "v", "_"]) (sc := defScope s_Web__init__) (by decide +kernel)) (fun _ _ _ _ _ => (pg_name (i := 8) sc_Web__init__.nd rfl (by first | exact Or.inl rfl | exact Or.inr rfl))) (fun _ _ _ _ _ => pts_nil) (fun _ _ _ _ _ => (pe_lst pa_nil))) rfl)
      (pss_cons (ps_fld (pv 0) (pe_lc (own := [("_", 8)]) (g := gName 8) (tt := tYes) rfl sc_Web__init__.nd (pi_range1 rfl T.m_range (pa_cons (pv 1) pa_nil)) (blkOk_by (N := ["self", "places", "arrows", "known", "i", "arrow", "u", "v", "_"]) (sc := defScope s_Web__init__) (by decide +kernel)) (fun _ _ _ _ _ => (pg_name (i := 8) sc_Web__init__.nd rfl (by first | exact Or.inl rfl | exact Or.inr rfl))) (fun _ _ _ _ _ => pts_nil) (fun _ _ _ _ _ => (pe_lst pa_nil))) rfl)
      (pss_one (ps_for (passes_of rfl) rfl (pi_or (kp_list K (kp_fld K (pv 0) rfl)) (kp_tup K (kp_fld K (pv 0) rfl))) (kg_tup (n := 2) K rfl (pgs_cons (pg_name (i := 6) sc_Web__init__.nd rfl (by first | exact Or.inl rfl | exact Or.inr rfl)) (pgs_cons (pg_name (i := 7) sc_Web__init__.nd rfl (by first | exact Or.inl rfl | exact Or.inr rfl)) pgs_nil))) (pss_cons (ps_expr (pe_bm PySem.F.plainAttrs_list PySem.F.slot_list_append PySem.F.type_list_append mt_append (pe_ix (k_ix K) (kp_fld K (pv 0) rfl) (pv 6) (fun _ _ => rfl)) (pa_cons (pv 7) pa_nil)))
      (pss_one (ps_expr (pe_bm PySem.F.plainAttrs_list PySem.F.slot_list_append PySem.F.type_list_append mt_append (pe_ix (k_ix K) (kp_fld K (pv 0) rfl) (pv 7) (fun _ _ => rfl)) (pa_cons (pv 6) pa_nil)))))))))))))))), p_init h fun x dx ms b hf hp => ?_⟩)
  unfold f_Web__init__ at hf
  split at hf
  rotate_right
  · cases hf
  · rename_i e1 e2
    cases hf
    obtain ⟨hk1, hk2, hk3⟩ := (show kn K e1 ∧ kn K e2 ∧ ∀ es, seqOf e2 = some es → (∀ x ∈ es, kn2 K x) ∧ es.length ≤ 100000 from hp)
    have zl : sizeLine = 16777216 := sizeLine_eq
    row_hasAny px
    refine ⟨_, rfl, hk1, fun cls xd hx => .inl ⟨hx.2.2, hx.1, hx.2.1⟩, fun m hm => ?_⟩
    obtain ⟨rfl, hin⟩ := (show m = .sh .non ∧ inRE 0 2000 e1 = true from hm)
    obtain ⟨N, rfl, N2⟩ : ∃ N : Nat, e1 = .int (N : Int) ∧ N ≤ 2000 := by
      cases e1 with
      | int n =>
        have h2 : (decide ((0 : Int) ≤ n) && decide (n ≤ 2000)) = true := hin
        simp only [Bool.and_eq_true, decide_eq_true_eq] at h2
        obtain ⟨N, rfl⟩ := Int.eq_ofNat_of_zero_le h2.1
        exact ⟨N, rfl, by omega⟩
      | _ => cases hin
    row_hasAny px
    rcases Option.eq_none_or_eq_some (seqOf e2) with hs | ⟨es, hs⟩
    · have e3 : isSeqE e2 = false := by rw [seq_isW, hs]; rfl
      rw [e3]
      row_hasAny px
      exact .inr (.inl ⟨hin, hs, rfl, rfl⟩)
    have e3 : isSeqE e2 = true := by rw [seq_isW, hs]; rfl
    rw [e3]
    obtain ⟨hk4, hz⟩ := hk3 es hs
    row_hasAny px
    refine q_for (fun L i ρ => i ≤ L.length ∧ L.length = es.length ∧ (∀ (j : Nat) y, j < i → es[j]? = some y → okPP N y = true) ∧ ∃ A u v, allPr (es.take i) = some A ∧ Within N A ∧ A.length = i ∧ ρ = [.pt x a.Web dx [], .sh (.int (N : Int)), .sh e2, .ot (dE (.bl true) (ddP A)), u, v, .no, .no, .no]) ?_
    refine p_ienumS rfl hs hk2 ?_
    refine ⟨⟨Nat.zero_le _, enm_len, fun j y hj _ => absurd hj (Nat.not_lt_zero _), [], _, _, rfl, nofun, rfl, rfl⟩, ?_, ?_⟩
    · rintro i q ρ hq ⟨_, hL, hok, A, u, v, hA, hW, hAl, rfl⟩
      have hiL := (List.getElem?_eq_some_iff.mp hq).1
      obtain ⟨z, hz2, rfl⟩ := enm_at hq
      have hkz : kn2 K z := hk4 z (List.mem_of_getElem? hz2)
      row_hasAny px
      cases hv : okPP N z with
      | true =>
        obtain ⟨p, hp1, hp2⟩ := okPP_pr hv
        have hdl := ddP_len A
        have hA2 : allPr (es.take (i + 1)) = some (A ++ [p]) := by
          rw [List.take_add_one, hz2]
          exact allPr_snoc hA hp1
        have hW2 : Within N (A ++ [p]) := fun r hr => by
          rcases List.mem_append.mp hr with h | h
          · exact hW r h
          · rw [List.mem_singleton.mp h]; exact hp2
        have hok2 : ∀ (j : Nat) y, j < i + 1 → es[j]? = some y → okPP N y = true := fun j y hj hy => by
          rcases Nat.lt_or_ge j i with h1 | h1
          · exact hok j y h1 hy
          · have e : j = i := by omega
            subst e
            rw [hz2] at hy
            cases hy
            exact hv
        have hdz : (dE (Pl.E.bl true) (ddP A)).length < sizeLine := by
          unfold dE
          rw [List.length_map]
          have := (List.getElem?_eq_some_iff.mp hz2).1
          omega
        have ep := put_dE (e := .bl true) A p
        row_hasAny px
        rcases prOf_cases hp1 with rfl | rfl
        all_goals
          refine p_dputT ?_
          row_hasAny px
          refine ⟨_, _, rfl, rfl, ?_⟩
          row_hasAny px
          refine ⟨keyP p, rfl, rfl, hdz, ?_⟩
          rw [ep]
          exact ⟨hiL, hL, hok2, A ++ [p], _, _, hA2, hW2, by rw [List.length_append, hAl]; rfl, rfl⟩
      | false =>
        row_hasAny px
        exact .inr (.inr (.inl ⟨N, es, i, z, rfl, N2, hs, hz2, hv, hok, rfl, rfl⟩))
    · rintro ρ ⟨_, hL, hok, A, u, v, hA, hW, hAl, rfl⟩
      rw [hL, List.take_length] at hA
      clear hok
      have hdl : (dE (Pl.E.bl true) (ddP A)).length = (arrS A).length := by
        unfold dE
        rw [List.length_map, arrS_len]
      refine p_frS 3 rfl nofun ?_
      refine p_noS 4 rfl ?_
      refine p_noS 5 rfl ?_
      row_hasAny px
      refine v_lenDt ?_
      row_hasAny px
      rw [hdl]
      refine if_d (fun h => ?_) (fun h => ?_)
      · row_hasAny px
        exact .inr (.inr (.inr ⟨N, es, A, rfl, N2, hs, hA, hW, by omega, rfl, rfl⟩))
      have hlen : (arrS A).length ≤ 2000 := by omega
      row_hasAny px
      refine p_envS [.pt x a.Web dx [], .sh (.int (N : Int)), .sh e2, .sh (.dit (dE (.bl true) (ddP A))), .no, .no, .no, .no, .no] rfl ?_
      refine q_fld rfl T.is_Web.cl T.na_Web__known ?_
      row_hasAny px
      refine ⟨_, _, rfl, rfl, rfl, ?_⟩
      refine q_seq ?_
      refine q_fld rfl T.is_Web.cl T.na_Web__arrows ?_
      row_hasAny px
      refine v_sortDt (ddP_nodup A) ?_
      rw [arrS_congr (A := ddP A) (B := A) fun q => mem_ddP A]
      refine ⟨_, _, rfl, rfl, rfl, ?_⟩
      refine p_envS [.pt x a.Web dx [(("_known" : Str), .dit (dE (.bl true) (ddP A))), (("_arrows" : Str), .lst ((arrS A).map prE))], .sh (.int (N : Int)), .sh e2, .sh (.dit (dE (.bl true) (ddP A))), .no, .no, .no, .no, .no] rfl ?_
      have WT : WebT N (arrS A) := ⟨N2, arrS_asc A, fun q hq => hW q (mem_arrS.mp hq), hlen⟩
      have fin : ∀ {x : Addr} {r : Pl.Env}, (∃ fs r', (.pt x a.Web dx (webF N (ddP A) (arrS A)) :: r : Pl.Env) = .pt x a.Web dx fs :: r' ∧ ∃ (n : Nat) (es : List Pl.E) (A : List (Int × Int)), Pl.E.int (N : Int) = .int (n : Int) ∧ n ≤ 2000 ∧ seqOf e2 = some es ∧ allPr es = some A ∧ Within n A ∧ (arrS A).length ≤ 2000 ∧ fs = webF n (ddP A) (arrS A)) := ⟨_, _, rfl, N, es, A, rfl, N2, hs, hA, hW, hlen, rfl⟩
      generalize ddP A = ks at *
      generalize arrS A = As at *
      intro B σ H D R xo ok
      have hl9 : σ.length = 9 := by rw [← R.sl.length]; rfl
      obtain ⟨z0, z1, z2, z3, z4, z5, z6, z7, z8, rfl⟩ := nine_of hl9
      obtain ⟨⟨rfl, fv, hx, hfv⟩, ⟨w1, rfl, hw1⟩, ⟨w2, rfl, _⟩, ⟨w3, rfl, _⟩, _⟩ := R.sl
      obtain rfl : w1 = .int (N : Int) := hw1
      obtain ⟨v1, r1, rfl, hv1, v2, r2, rfl, hv2, rfl⟩ := hfv
      obtain ⟨kd, kvs, rfl, gk0, gkz, gkt⟩ := hv1
      obtain ⟨pA, ys, rfl, ga0, gaz, gy⟩ := hv2
      have hx0 : B.H0 x = none := R.new x (by simp [owns, own])
      have hxO : x ∉ B.O1 := R.dj x (by simp [owns, own])
      have ga := (wos_some ga0).2
      have gk := (wos_some gk0).2
      have npx : pA ≠ x := fun z => (wos_some ga0).1 (by rw [z]; simp [owns, own])
      have nkx : kd ≠ x := fun z => (wos_some gk0).1 (by rw [z]; simp [owns, own])
      have cW := T.is_Web.cl
      have q1 := T.na_Web__known
      have q2 := T.na_Web__arrows
      have q3 := T.na_Web__outs
      have q4 := T.na_Web__ins
      row_hasAny sx
      rename_i L hL
      refine c_range (fun i H' => Same H H' ∧ ∃ bs : List Addr, H' L = some (.lst (bs.map V.ref)) ∧ bs.length = i ∧ NewRows H H' L bs) ⟨nw_new hL, [], upd_same, rfl, NewRows.nil⟩ ?_ ?_
      · rintro i H' hi ⟨s2, bs, h1, h2, h3⟩
        row_hasAny sx
        rename_i b hb
        refine ⟨bs.map V.ref, nw_new hb _ _ h1, by rw [List.length_map]; omega, same_mut (s2.trans (nw_new hb)) hL, bs ++ [b], by rw [List.map_append]; exact upd_same, by rw [List.length_append, h2]; rfl, h3.add s2 h1 hb _⟩
      rintro H3 ⟨s3, bs, g1, g2, g3⟩
      have hx3 := s3 _ _ hx
      row_hasAny sx
      rename_i M hM
      have nLx : L ≠ x := (nw_ne hL hx).symm
      have hbx : ∀ b ∈ bs, b ≠ x := fun b hb z => by
        have := (g3.2 b hb).2.1
        rw [z, hx] at this
        cases this
      generalize hG : upd H3 x _ = G2 at hM ⊢
      have sb2 : SB x H3 G2 := by rw [← hG]; exact SB.refl.upd
      have gx2 : G2 x = some (.ins a.Web dx (putF "_outs" (.ref L) (putF "_arrows" (.ref pA) (putF "_known" (.ref kd) [])))) := by rw [← hG]; exact upd_same
      clear hG
      refine c_range (fun i H' => Same G2 H' ∧ ∃ bs : List Addr, H' M = some (.lst (bs.map V.ref)) ∧ bs.length = i ∧ NewRows G2 H' M bs) ⟨nw_new hM, [], upd_same, rfl, NewRows.nil⟩ ?_ ?_
      · rintro i H' hi ⟨s2, bs, h1, h2, h3⟩
        row_hasAny sx
        rename_i b hb
        refine ⟨bs.map V.ref, nw_new hb _ _ h1, by rw [List.length_map]; omega, same_mut (s2.trans (nw_new hb)) hM, bs ++ [b], by rw [List.map_append]; exact upd_same, by rw [List.length_append, h2]; rfl, h3.add s2 h1 hb _⟩
      rintro H4 ⟨s4, cs, c1, c2, c3⟩
      have hx4 := s4 _ _ gx2
      row_hasAny sx
      have nMx : M ≠ x := (nw_ne hM gx2).symm
      have noG : ∀ {b : Addr} {o : HO}, H b = some o → b ∉ bs := fun h hb => by
        rw [(g3.2 _ hb).2.1] at h
        cases h
      have noG2 : ∀ {b : Addr} {o : HO}, G2 b = some o → b ∉ cs := fun h hb => by
        rw [(c3.2 _ hb).2.1] at h
        cases h
      have xb : x ∉ bs := noG hx
      have xc : x ∉ cs := noG2 gx2
      have hcx : ∀ c ∈ cs, c ≠ x := fun c hc z => xc (z ▸ hc)
      have gb2 : ∀ b ∈ bs, G2 b = some (.lst []) := fun b hb => sb2 _ _ (hbx b hb) (g3.2 b hb).2.2
      have hcb : ∀ c ∈ cs, c ∉ bs := fun c hc hb => noG2 (gb2 c hb) hc
      generalize hG : upd H4 x _ = G3
      have sb3 : SB x H4 G3 := by rw [← hG]; exact SB.refl.upd
      have gx3 : G3 x = some (.ins a.Web dx (putF "_ins" (.ref M) (putF "_outs" (.ref L) (putF "_arrows" (.ref pA) (putF "_known" (.ref kd) []))))) := by rw [← hG]; exact upd_same
      clear hG
      have up2 : ∀ {b : Addr} {o : HO}, b ≠ x → H b = some o → G2 b = some o := fun nb h => sb2 _ _ nb (s3 _ _ h)
      have up3 : ∀ {b : Addr} {o : HO}, b ≠ x → G2 b = some o → G3 b = some o := fun nb h => sb3 _ _ nb (s4 _ _ h)
      have gL2 : G2 L = some (.lst (bs.map V.ref)) := sb2 _ _ nLx g1
      have gL3 := up3 nLx gL2
      have gM3 : G3 M = some (.lst (cs.map V.ref)) := sb3 _ _ nMx c1
      have gp3 := up3 npx (up2 npx ga)
      have gk3 := up3 nkx (up2 nkx gk)
      have gb3 : ∀ b ∈ bs, G3 b = some (.lst []) := fun b hb => up3 (hbx b hb) (gb2 b hb)
      have gc3 : ∀ c ∈ cs, G3 c = some (.lst []) := fun c hc => sb3 _ _ (hcx c hc) (c3.2 c hc).2.2
      have nLb : L ∉ bs := fun h => (g3.2 L h).1 rfl
      have nLc : L ∉ cs := noG2 gL2
      have nMc : M ∉ cs := fun h => (c3.2 M h).1 rfl
      have nMb : M ∉ bs := fun h => by
        have e := gb2 M h
        rw [show G2 M = none from hM] at e
        cases e
      have npb := noG ga
      have npc := noG2 (up2 npx ga)
      have nkb := noG gk
      have nkc := noG2 (up2 nkx gk)
      have lys : ys.length = As.length := by rw [EvL.length gy, List.length_map]
      have hrng := WT.rng
      have hA2 := WT.len
      have old : ∀ {b : Addr} {o : HO}, b ≠ x → H b = some o → G3 b = some o ∧ b ∉ bs ∧ b ∉ cs := fun nb h => ⟨up3 nb (up2 nb h), noG h, noG2 (up2 nb h)⟩
      refine Or.inl (i_list ?_)
      row_hasAny sx
      refine f_list (xs := ys) (fun i σ H' => (∀ b o, b ∉ bs → b ∉ cs → G3 b = some o → H' b = some o) ∧ Rows H' bs (outsOf (As.take i)) ∧ Rows H' cs (insOf (As.take i)) ∧ ∃ s6 s7, σ = [some (.ref x), some (.int (N : Int)), some w2, some w3, z4, z5, s6, s7, z8])
        ⟨fun _ _ _ _ h => h, fun u b hb => gb3 b (List.mem_of_getElem? hb), fun u b hb => gc3 b (List.mem_of_getElem? hb), _, _, rfl⟩ (fun i σ' H' _ h => SqL.of (h.1 _ _ npb npc gp3)) ?_ ?_
      · rintro i y σ H5 hy ⟨hkeep, hro, hrc, u3, u4, rfl⟩
        have hiA : i < As.length := by
          have := (List.getElem?_eq_some_iff.mp hy).1
          omega
        obtain ⟨r1, r2, r3, r4⟩ := hrng As[i] (List.getElem_mem hiA)
        obtain ⟨U, W, hq⟩ : ∃ U W : Nat, As[i] = ((U : Int), (W : Int)) := ⟨As[i].1.toNat, As[i].2.toNat, Prod.ext (by show As[i].1 = ((As[i].1.toNat : Nat) : Int); omega) (by show As[i].2 = ((As[i].2.toNat : Nat) : Int); omega)⟩
        rw [hq] at r1 r2 r3 r4
        obtain ⟨y2, hy2, hdy⟩ := gy.get (i := i) (e := prE ((U : Int), (W : Int))) (by rw [List.getElem?_map, List.getElem?_eq_getElem hiA, hq]; rfl)
        rw [hy] at hy2
        cases hy2
        obtain ⟨tt, ws, rfl, htt0, _, hws⟩ := hdy
        obtain ⟨_, _, rfl, rfl, _, _, rfl, rfl, rfl⟩ := hws
        have htt := (wos_some htt0).2
        have ntx : tt ≠ x := fun z => (wos_some htt0).1 (by rw [z]; simp [owns, own])
        obtain ⟨t1, t2, t3⟩ := old ntx htt
        have ht5 := hkeep tt _ t2 t3 t1
        have hx5 := hkeep x _ xb xc gx3
        have hL5 := hkeep L _ nLb nLc gL3
        have hM5 := hkeep M _ nMb nMc gM3
        have r2 : U < N := by have : (U : Int) < (N : Int) := r2; omega
        have r4 : W < N := by have : (W : Int) < (N : Int) := r4; omega
        have g2N : bs.length = N := by omega
        have c2N : cs.length = N := by omega
        obtain ⟨bu, hbu⟩ : ∃ b, bs[U]? = some b := ⟨_, List.getElem?_eq_getElem (by rw [g2N]; exact r2)⟩
        obtain ⟨cv, hcv⟩ : ∃ c, cs[W]? = some c := ⟨_, List.getElem?_eq_getElem (by rw [c2N]; exact r4)⟩
        have mbu := List.mem_of_getElem? hbu
        have mcv := List.mem_of_getElem? hcv
        have hru := hro _ _ hbu
        have hrv := hrc _ _ hcv
        have l1 := outs_len (As.take i) U
        have l2 := ins_len (As.take i) W
        have l3 := List.length_take_le i As
        have l4 := List.length_take_le' i As
        have nxb : x ≠ bu := fun z => xb (z ▸ mbu)
        have nMbu : M ≠ bu := fun z => nMb (z ▸ mbu)
        have ncb : cv ≠ bu := fun z => hcb cv mcv (z ▸ mbu)
        row_hasAny sx
        refine r_ixL' hL5 (atI_nat (show (bs.map V.ref)[U]? = some (.ref bu) by rw [List.getElem?_map, hbu]; rfl)) ?_
        row_hasAny sx
        refine r_ixL' ((upd_ne nMbu).trans hM5) (atI_nat (show (cs.map V.ref)[W]? = some (.ref cv) by rw [List.getElem?_map, hcv]; rfl)) ?_
        row_hasAny sx
        have etk : As.take (i + 1) = As.take i ++ [((U : Int), (W : Int))] := by rw [List.take_succ, List.getElem?_eq_getElem hiA, hq]; rfl
        refine ⟨fun b o h1 h2 h => (upd_ne (fun z => h2 (by rw [z]; exact mcv))).trans ((upd_ne (fun z => h1 (by rw [z]; exact mbu))).trans (hkeep b o h1 h2 h)), ?_, ?_, _, _, rfl⟩
        · rw [etk]
          refine (hro.put (z := W) g3.1 hbu _ (by rw [outs_snoc, if_pos rfl]) (fun w hw => ?_)).other (hcb cv mcv)
          rw [outs_snoc, if_neg (by show ¬ (U : Int) = (w : Int); omega)]
        · rw [etk]
          refine (hrc.other (fun h => hcb bu h mbu)).put (z := U) c3.1 hcv _ (by rw [ins_snoc, if_pos rfl]) (fun w hw => ?_)
          rw [ins_snoc, if_neg (by show ¬ (W : Int) = (w : Int); omega)]
      · rintro σ H5 ⟨hkeep, hro, hrc, u3, u4, rfl⟩
        rw [lys, List.take_length] at hro hrc
        have keep : ∀ b o, b ≠ x → H b = some o → H5 b = some o := fun b o nb hb => by
          obtain ⟨h1, h2, h3⟩ := old nb hb
          exact hkeep b o h2 h3 h1
        have hx5 := hkeep x _ xb xc gx3
        have sO : Same (wos ([x] ++ B.O1) H) (wos ([x] ++ B.O1) H5) := wos_same fun b o hb e => ⟨hb, keep b o (fun z => hb (by rw [z]; simp)) e⟩
        have freshO : ∀ {b : Addr}, H b = none → b ∉ [x] ++ B.O1 := fun {b} hb hm => by
          rcases List.mem_append.mp hm with h | h
          · rw [List.mem_singleton.mp h, hx] at hb
            cases hb
          · exact R.alive b h hb
        have hLn : H L = none := hL
        have hMn : H M = none := by
          cases e : H M with
          | none => rfl
          | some o =>
            have h1 := up2 (fun z => nMx z) e
            rw [show G2 M = none from hM] at h1
            cases h1
        have hbn : ∀ b ∈ bs, H b = none := fun b hb => (g3.2 b hb).2.1
        have hcn : ∀ c ∈ cs, H c = none := fun c hc => by
          cases e : H c with
          | none => rfl
          | some o =>
            have h1 := up2 (hcx c hc) e
            rw [(c3.2 c hc).2.1] at h1
            cases h1
        refine ok.nx (.pt x a.Web dx (webF N ks As) :: List.replicate 8 .no) _ _ ?_ fin
        have o1 : owns (Pl.M.pt x a.Web dx (webF N ks As) :: List.replicate 8 Pl.M.no) [some (V.ref x), some (.int (N : Int)), some w2, some w3, z4, z5, u3, u4, z8] = [x] := by simp [owns, own, List.replicate]
        have o0 : owns (Pl.M.pt x a.Web dx [(("_known" : Str), Pl.E.dit (dE (.bl true) ks)), (("_arrows" : Str), .lst (As.map prE))] :: [.sh (.int (N : Int)), .sh e2, .sh (.dit (dE (.bl true) ks)), .no, .no, .no, .no, .no]) [some (V.ref x), some (.int (N : Int)), some w2, some w3, z4, z5, z6, z7, z8] = [x] := by simp [owns, own]
        exact {
          fr := fun b o h e => keep b o (fun z => by rw [z, hx0] at e; cases e) (R.fr b o h e)
          sto := fun p c e => by
            obtain ⟨⟨cells, at', bank, mx, cnt, h1, h2, h3⟩, h4, h5, h6⟩ := R.sto p c e
            have npx2 : p ≠ x := fun z => h5 (by rw [z]; exact hx0)
            have ncx2 : c ≠ x := fun z => h6 (by rw [z]; exact hx0)
            exact ⟨⟨cells, at', bank, mx, cnt, keep _ _ npx2 h1, keep _ _ ncx2 h2, h3⟩, h4, h5, h6⟩
          ex := R.ex
          new := fun q hq => by
            rw [o1] at hq
            rw [List.mem_singleton.mp hq]
            exact hx0
          nd := by rw [o1]; simp
          sl := by
            rw [o1]
            rw [o0] at gk0 gkt ga0 gy
            have wL : wos ([x] ++ B.O1) H5 L = some (.lst (bs.map V.ref)) := by rw [wos_out (freshO hLn)]; exact hkeep L _ nLb nLc gL3
            have wM : wos ([x] ++ B.O1) H5 M = some (.lst (cs.map V.ref)) := by rw [wos_out (freshO hMn)]; exact hkeep M _ nMb nMc gM3
            refine ⟨⟨rfl, _, hx5, ⟨_, _, rfl, ⟨kd, kvs, rfl, sO _ _ gk0, gkz, gkt.mono sO⟩, _, _, rfl, ⟨pA, ys, rfl, sO _ _ ga0, gaz, gy.mono sO⟩, _, _, rfl, ⟨L, _, rfl, wL, by rw [List.length_map]; omega, ?_⟩, _, _, rfl, ⟨M, _, rfl, wM, by rw [List.length_map]; omega, ?_⟩, rfl⟩⟩, trivial, trivial, trivial, trivial, trivial, trivial, trivial, trivial, trivial⟩
            · exact rows_ev (by omega) (fun b hb o h => by rw [wos_out (freshO (hbn b hb))]; exact h) hro fun u => by have := outsOf_len As u; omega
            · exact rows_ev (by omega) (fun b hb o h => by rw [wos_out (freshO (hcn b hb))]; exact h) hrc fun u => by have := insOf_len As u; omega }
theorem kn2_plain {K : PySem.W.Frag} {e : Pl.E} (h : Pl.plain e = true) : kn2 K e := by
  refine ⟨plain_kn h, ?_⟩
  cases e with
  | lst es => exact fun x hx => plain_kn (plains_mem h x hx)
  | tup es => exact fun x hx => plain_kn (plains_mem h x hx)
  | pr _ => cases h
  | _ => trivial
theorem okPP_T {n : Int} {x : Pl.E} {p : Int × Int} (h : prOf x = some p) (h0 : 0 ≤ p.1 ∧ p.1 < n ∧ 0 ≤ p.2 ∧ p.2 < n) : okPP n x = true := by
  have key : (inRE 0 (n - 1) (.int p.1) && inRE 0 (n - 1) (.int p.2)) = true := by
    rw [inRE_in (by omega) (by omega), inRE_in (by omega) (by omega)]
    rfl
  rcases prOf_cases h with rfl | rfl <;> exact key
theorem u_WebG {K : PySem.W.Frag} {a : Ad} {N : Nat} {e2 : Pl.E} {es : List Pl.E} {A : List (Int × Int)} {R0 : List (Str × Pl.E) → Prop} {XP : Value → XD → Prop} (hN : N ≤ 2000) (hs : seqOf e2 = some es) (hA : allPr es = some A) (hk : kn K e2) (hp : ∀ x ∈ es, kn2 K x) (hz : es.length ≤ 100000) (hW : Within N A)
    (k : (arrS A).length ≤ 2000 → R0 (webF N (ddP A) (arrS A))) (kx : 2000 < (arrS A).length → XP (.ref a.TooMany) (.one "most" (.int 2000))) : ∃ b, f_Web__init__ K a [.sh (.int (N : Int)), .sh e2] = some b ∧ b.pre ∧ (∀ cls xd, b.xp cls xd → XP cls xd) ∧ ∀ fs, b.fl fs → R0 fs := by
  refine ⟨_, rfl, ⟨trivial, hk, fun es' h => ?_⟩, ?_, ?_⟩
  · rw [hs] at h
    cases h
    exact ⟨hp, hz⟩
  · have h2000 : inRE 0 2000 (.int (N : Int)) = true := inRE_in (by omega) (by omega)
    rintro cls xd (⟨h, _⟩ | ⟨_, h, _⟩ | ⟨n, es', i, x, e1, h0, h2, h3, h4, _⟩ | ⟨n, es', A', e1, h0, h2, h3, h4, h5, rfl, rfl⟩)
    · rw [h2000] at h; cases h
    · rw [hs] at h; cases h
    · obtain rfl : N = n := by have := Pl.E.int.inj e1; omega
      rw [hs] at h2
      cases h2
      obtain ⟨p, g1, g2⟩ := (allPr_at hA).2 i x h3
      rw [okPP_T g2 (hW p (List.mem_of_getElem? g1))] at h4
      cases h4
    · rw [hs] at h2
      cases h2
      rw [hA] at h3
      cases h3
      exact kx h5
  · rintro fs ⟨n, es', A', e1, h0, h2, h3, h4, h5, rfl⟩
    obtain rfl : N = n := by have := Pl.E.int.inj e1; omega
    rw [hs] at h2
    cases h2
    rw [hA] at h3
    cases h3
    exact k h5
/-- a web made of a list of pairs, not too many -/
theorem u_WebT {K : PySem.W.Frag} {a : Ad} {N : Nat} {A : List (Int × Int)} {R0 : List (Str × Pl.E) → Prop} {XP : Value → XD → Prop} (hN : N ≤ 2000) (hz : A.length ≤ 100000) (hW : Within N A) (hl : (arrS A).length ≤ 2000)
    (k : Wb N (ddP A) (arrS A) → R0 (webF N (ddP A) (arrS A))) : ∃ b, f_Web__init__ K a [.sh (.int (N : Int)), .sh (.lst (A.map prE))] = some b ∧ b.pre ∧ (∀ cls xd, b.xp cls xd → XP cls xd) ∧ ∀ fs, b.fl fs → R0 fs :=
  u_WebG hN (es := A.map prE) rfl (allPr_map A) trivial (fun x hx => by
    obtain ⟨p, _, rfl⟩ := List.mem_map.mp hx
    exact kn2_plain rfl) (by rw [List.length_map]; exact hz) hW (fun h => k (Wb.new hN hW h)) fun h => absurd hl (by omega)
theorem u_WebX {K : PySem.W.Frag} {a : Ad} {N : Nat} {A : List (Int × Int)} {R0 : List (Str × Pl.E) → Prop} {XP : Value → XD → Prop} (hN : N ≤ 2000) (hz : A.length ≤ 100000) (hW : Within N A)
    (k : Wb N (ddP A) (arrS A) → R0 (webF N (ddP A) (arrS A))) (kx : 2000 < (arrS A).length → XP (.ref a.TooMany) (.one "most" (.int 2000))) : ∃ b, f_Web__init__ K a [.sh (.int (N : Int)), .sh (.lst (A.map prE))] = some b ∧ b.pre ∧ (∀ cls xd, b.xp cls xd → XP cls xd) ∧ ∀ fs, b.fl fs → R0 fs :=
  u_WebG hN (es := A.map prE) rfl (allPr_map A) trivial (fun x hx => by
    obtain ⟨p, _, rfl⟩ := List.mem_map.mp hx
    exact kn2_plain rfl) (by rw [List.length_map]; exact hz) hW (fun h => k (Wb.new hN hW h)) kx

/-! ### Web.__len__ -/
def f_Web__len__ (a : Ad) : List M → Option Br
  | [.sh e] => some (brp (∃ n As, WbE a.Web e n As) (.sh (.int (wN e : Int))))
  | _ => none
theorem ok_Web__len__ (T : Txt K mg a d) : FnOk P w K mg base CX0 1 a.Web__len__ d.Web__len__ ["self"] (spC (ctF (f_Web__len__ a))) := by
  refine T.F_Web__len__.ok sc_Web__len__ (fun vs H Q E h => spF_len (fun ms b hf => by unfold f_Web__len__ at hf; split at hf <;> first | rfl | cases hf) h) (fun cdv A outer s H vs Q E hr h => ⟨_, (pss_one (ps_ret (pe_callB (k_len K) (by rfl) T.m_len bt_len (pa_cons (kp_fld K (pv 0) rfl) pa_nil)))), p_bodyF h fun ms b hf hp => ?_⟩)
  unfold f_Web__len__ at hf
  split at hf
  rotate_right
  · cases hf
  · rename_i e
    cases hf
    obtain ⟨n, As, WT, ks, rfl, nd, hk⟩ := (show ∃ n As, WbE a.Web e n As from hp)
    have cl := T.is_Web.cl
    have na := T.na_Web__outs
    row_hasAny px
    exact rfl

/-! ### Web.__contains__ -/
--@hint arrow in self._known => dict
--@used k Web
--@used n Web _known
def f_Web__contains__ (a : Ad) : List M → Option Br
  | [.sh w, .sh e] => some ⟨(∃ n As, WbE a.Web w n As) ∧ ∃ p, e = prE p, fun m => ∃ p, e = prE p ∧ m = .sh (.bl (decide (p ∈ wA w))), fun _ _ => False⟩
  | _ => none
theorem ok_Web__contains__ (T : Txt K mg a d) : FnOk P w K mg base CX0 1 a.Web__contains__ d.Web__contains__ ["self", "arrow"] (spC (ctF (f_Web__contains__ a))) := by
  refine T.F_Web__contains__.ok sc_Web__contains__ (fun vs H Q E h => spF_len (fun ms b hf => by unfold f_Web__contains__ at hf; split at hf <;> first | rfl | cases hf) h) (fun cdv A outer s H vs Q E hr h => ⟨_, (pss_one (ps_ret (pe_cmp (pc_din (hu_of hr) (pv 1) (kp_fld K (pv 0) rfl)) rfl))), p_bodyF h fun ms b hf hp => ?_⟩)
  unfold f_Web__contains__ at hf
  split at hf
  rotate_right
  · cases hf
  · rename_i w e
    cases hf
    obtain ⟨⟨n, As, hW⟩, p, rfl⟩ := (show (∃ n As, WbE a.Web w n As) ∧ ∃ p, e = prE p from hp)
    rw [hW.wA]
    obtain ⟨ks, rfl, hWb⟩ := hW.wb
    have cl := T.is_Web.cl
    have na := T.na_Web__known
    row_hasAny pu
    refine p_inDt ?_
    row_hasAny pu
    refine ⟨p, rfl, ?_⟩
    row_hasAny pu
    exact ⟨_, ks, rfl, p, rfl, by rw [show decide (p ∈ ks) = decide (p ∈ As) from decide_eq_decide.mpr (hWb.mem p)]⟩
theorem u_contN {a : Ad} {n : Nat} {ks As : List (Int × Int)} {u v : Int} {Q : M → Prop} (h : Wb n ks As) (k : Q (.sh (.bl (!decide ((u, v) ∈ As))))) : p2 (rNinI a.Web (spC (ctF (f_Web__contains__ a)))) (.sh (.tup [.int u, .int v])) (.sh (obE a.Web (webF n ks As))) Q :=
  v_ninI ⟨_, rfl, ⟨⟨n, As, h.e _⟩, (u, v), rfl⟩, fun _ _ z => z, fun m hm => by
    obtain ⟨q, e, rfl⟩ := hm
    obtain rfl : (u, v) = q := by
      have h1 := Pl.E.tup.inj e
      have h2 := Pl.E.int.inj (List.cons.inj h1).1
      have h3 := Pl.E.int.inj (List.cons.inj (List.cons.inj h1).2).1
      exact Prod.ext h2 h3
    refine ⟨_, rfl, ?_⟩
    rw [show wA (obE a.Web (webF n ks As)) = As from (h.e a.Web).wA]
    exact k⟩
theorem u_lenW {a : Ad} {n : Nat} {ks As : List (Int × Int)} {QQ : M → Prop} (h : Wb n ks As) (k : QQ (.sh (.int (n : Int)))) : pL (rLenI a.Web (spC (ctF (f_Web__len__ a)))) [.sh (obE a.Web (webF n ks As))] QQ := by
  have hw : wN (obE a.Web (webF n ks As)) = n := (h.e a.Web).wN
  have hn := h.t.n2
  refine v_lenI (g := f_Web__len__ a) rfl ⟨n, As, h.e _⟩ (by omega) (by omega) ?_
  rw [hw]
  exact k

/-! ### Web.places -/
def f_Web_places (a : Ad) : List M → Option Br
  | [.sh e] => some (brp (∃ n As, WbE a.Web e n As) (.sh (.int (wN e : Int))))
  | _ => none
theorem ok_Web_places (T : Txt K mg a d) : FnOk P w K mg base CX0 1 a.Web_places d.Web_places ["self"] (spC (ctF (f_Web_places a))) := by
  refine T.F_Web_places.ok sc_Web_places (fun vs H Q E h => spF_len (fun ms b hf => by unfold f_Web_places at hf; split at hf <;> first | rfl | cases hf) h) (fun cdv A outer s H vs Q E hr h => ⟨_, (pss_one (ps_ret (pe_callB (k_len K) (by rfl) T.m_len bt_len (pa_cons (kp_fld K (pv 0) rfl) pa_nil)))), p_bodyF h fun ms b hf hp => ?_⟩)
  unfold f_Web_places at hf
  split at hf
  rotate_right
  · cases hf
  · rename_i e
    cases hf
    obtain ⟨n, As, WT, ks, rfl, nd, hk⟩ := (show ∃ n As, WbE a.Web e n As from hp)
    have cl := T.is_Web.cl
    have na := T.na_Web__outs
    row_hasAny pu
    exact rfl
theorem u_places {a : Ad} {n : Nat} {ks As : List (Int × Int)} {R : M → Prop} (h : Wb n ks As) (k : R (.sh (.int (n : Int)))) : ∃ b, f_Web_places a [.sh (.ob a.Web (webF n ks As))] = some b ∧ b.pre ∧ (∀ cls xd, ¬ b.xp cls xd) ∧ ∀ r, b.post r → R r :=
  cb1 rfl ⟨n, As, h.e _⟩ (by rw [(h.e a.Web).wN]; exact k)

/-! ### Web.arrows -/
def f_Web_arrows (a : Ad) : List M → Option Br
  | [.sh e] => some (brp (∃ n As, WbE a.Web e n As) (.ow ((wA e).map prE)))
  | _ => none
theorem ok_Web_arrows (T : Txt K mg a d) : FnOk P w K mg base CX0 1 a.Web_arrows d.Web_arrows ["self"] (spC (ctF (f_Web_arrows a))) := by
  refine T.F_Web_arrows.ok sc_Web_arrows (fun vs H Q E h => spF_len (fun ms b hf => by unfold f_Web_arrows at hf; split at hf <;> first | rfl | cases hf) h) (fun cdv A outer s H vs Q E hr h => ⟨_, (pss_one (ps_ret (pe_callTy (k_list K) (by rfl) T.m_list bt_list (pa_cons (kp_fld K (pv 0) rfl) pa_nil)))), p_bodyF h fun ms b hf hp => ?_⟩)
  unfold f_Web_arrows at hf
  split at hf
  rotate_right
  · cases hf
  · rename_i e
    cases hf
    obtain ⟨n, As, hW⟩ := (show ∃ n As, WbE a.Web e n As from hp)
    rw [hW.wA]
    obtain ⟨WT, ks, rfl, nd, hk⟩ := hW
    have cl := T.is_Web.cl
    have na := T.na_Web__arrows
    row_hasAny pu
    exact rfl
theorem u_arrows {a : Ad} {n : Nat} {ks As : List (Int × Int)} {R : M → Prop} (h : Wb n ks As) (k : R (.ow (As.map prE))) : ∃ b, f_Web_arrows a [.sh (.ob a.Web (webF n ks As))] = some b ∧ b.pre ∧ (∀ cls xd, ¬ b.xp cls xd) ∧ ∀ r, b.post r → R r :=
  cb1 rfl ⟨n, As, h.e _⟩ (by rw [(h.e a.Web).wA]; exact k)

/-! ### joins -/
theorem ordJ {a : Ad} {rs qs : List Nat} (h : ordE a rs = ordE a qs) : rs = qs := by
  have h2 := congrArg (fun e => match e with
    | .ob _ [(_, .lst es)] => natsL es
    | _ => []) h
  simp only [natsL_nat] at h2
  exact h2
def ordOr (K : PySem.W.Frag) (a : Ad) (e : Pl.E) : Prop := (∃ rs, OrdT rs ∧ e = ordE a rs) ∨ isOf K a.Order e false
def f_joins (K : PySem.W.Frag) (a : Ad) : List M → Option Br
  | [.sh e, .sh e1, .sh e2] => some ⟨ordOr K a e ∧ kn K e1 ∧ kn K e2, fun m => ∃ (rs : List Nat) (x y : Nat), OrdT rs ∧ e = ordE a rs ∧ e1 = .int (x : Int) ∧ e2 = .int (y : Int) ∧ x < rs.length ∧ y < rs.length ∧ m = .sh (.bl (!bt rs y x)),
      fun cls xd => (isOf K a.Order e false ∧ cls = .ref a.BadOrder ∧ xd = .one "bad_at" .non) ∨ ∃ rs, OrdT rs ∧ e = ordE a rs ∧ (inRE 0 (rs.length - 1 : Int) e1 = false ∨ inRE 0 (rs.length - 1 : Int) e2 = false) ∧ cls = .ref a.BadNumber ∧ xd = .none⟩
  | _ => none
theorem ok_joins (T : Txt K mg a d) : FnOk P w K mg base (L2.CX P w) 6 a.joins d.joins ["order", "a", "b"] (spC (ctF (f_joins K a))) := by
  refine T.F_joins.okX sc_joins (fun vs H Q E h => spF_len (fun ms b hf => by unfold f_joins at hf; split at hf <;> first | rfl | cases hf) h) (fun cdv A outer s H vs Q E hr h => ⟨_, (pss_cons (ps_expr (pe_call (ok_check_order (P := P) T) (hr.mono (by omega)) rfl T.g_check_order T.F_check_order.kp T.b_check_order .nil (passes_call (takes_of rfl rfl rfl rfl) (fun _ _ _ _ z => z)) (pa_cons (pv 0) pa_nil)))
      (pss_one (ps_ret (pe_not (pe_meth (pv 0) T.is_Order.cl T.mt_Order_at_or_below (ok_Order_at_or_below (P := P) T) (hr.mono (by omega)) T.b_Order_at_or_below .nil (passes_call (takes_of rfl rfl rfl rfl) (fun _ _ _ _ z => z)) (pa_cons (pv 2) (pa_cons (pv 1) pa_nil))))))), p_bodyF h fun ms b hf hp => ?_⟩)
  unfold f_joins at hf
  split at hf
  rotate_right
  · cases hf
  · rename_i e e1 e2
    cases hf
    obtain ⟨ho, k1, k2⟩ := (show ordOr K a e ∧ kn K e1 ∧ kn K e2 from hp)
    rcases ho with ⟨rs, O, rfl⟩ | ho
    · have iso : isOf K a.Order (ordE a rs) true := iso_self T.is_Order
      row_hasAny pu
      refine ⟨_, rfl, ⟨_, iso⟩, fun cls xd h => .inl ⟨h.2.2, h.1, h.2.1⟩, fun m hm => ?_⟩
      obtain ⟨rfl, _⟩ := hm
      row_hasAny pu
      refine ⟨_, rfl, ⟨⟨rfl, rfl, rs, rfl, O⟩, k2, k1⟩, fun cls xd h => .inr ⟨rs, O, rfl, ?_, h.1, h.2.1⟩, fun m hm => ?_⟩
      · have := h.2.2.symm
        rw [List.length_map] at this
        exact this
      obtain ⟨y, x, rfl, rfl, hy, hx, rfl⟩ := hm
      rw [List.length_map] at hx hy
      rw [natsL_nat]
      row_hasAny pu
      exact ⟨rs, x, y, O, rfl, rfl, rfl, hx, hy, rfl⟩
    · row_hasAny pu
      refine ⟨_, rfl, ⟨_, ho⟩, fun cls xd h => .inl ⟨h.2.2, h.1, h.2.1⟩, fun m hm => ?_⟩
      exact absurd (iso_fun ho hm.2) (by decide)
theorem u_joins {K : PySem.W.Frag} {a : Ad} {rs : List Nat} {x y : Nat} {R : M → Prop} {S : Value → XD → Prop} (O : OrdT rs) (hx : x < rs.length) (hy : y < rs.length) (iso : isOf K a.Order (ordE a rs) true) (k : R (.sh (.bl (!bt rs y x)))) : ∃ b, f_joins K a [.sh (ordE a rs), .sh (.int (x : Int)), .sh (.int (y : Int))] = some b ∧ b.pre ∧ (∀ cls xd, b.xp cls xd → S cls xd) ∧ ∀ r, b.post r → R r := by
  refine ⟨_, rfl, ⟨.inl ⟨rs, O, rfl⟩, trivial, trivial⟩, fun cls xd h => ?_, fun r hr => ?_⟩
  · rcases h with ⟨h, _⟩ | ⟨qs, _, e, h, _⟩
    · exact absurd (iso_fun iso h) (by decide)
    · have e := ordJ e
      subst e
      rw [inRE_in (by omega) (by omega), inRE_in (by omega) (by omega)] at h
      rcases h with h | h <;> cases h
  · obtain ⟨qs, x', y', _, e, e1, e2, _, _, rfl⟩ := hr
    have e := ordJ e
    subst e
    obtain rfl : x = x' := by have := Pl.E.int.inj e1; omega
    obtain rfl : y = y' := by have := Pl.E.int.inj e2; omega
    exact k

/-! ### _rule_arrows -/
--@hint len(order) => own Order
/-- the arrows of the rule: from a to b, b not at or below a -/
def raF (n : Nat) (f : Nat → Nat → Bool) : List (Int × Int) := (List.range n).flatMap fun a => ((List.range n).filter fun b => !f b a).map fun b : Nat => ((a : Int), (b : Int))
theorem mem_raF {n : Nat} {f : Nat → Nat → Bool} {q : Int × Int} : q ∈ raF n f ↔ ∃ a b : Nat, a < n ∧ b < n ∧ f b a = false ∧ q = ((a : Int), (b : Int)) := by
  unfold raF
  simp only [List.mem_flatMap, List.mem_map, List.mem_filter, List.mem_range, Bool.not_eq_true']
  constructor
  · rintro ⟨a, ha, b, ⟨hb, h⟩, rfl⟩
    exact ⟨a, b, ha, hb, h, rfl⟩
  · rintro ⟨a, b, ha, hb, h, rfl⟩
    exact ⟨a, ha, b, ⟨hb, h⟩, rfl⟩
theorem raF_asc (n : Nat) (f : Nat → Nat → Bool) : (raF n f).Pairwise plt := by
  unfold raF
  refine List.pairwise_flatMap.mpr ⟨fun u _ => List.pairwise_map.mpr ((List.pairwise_lt_range.filter _).imp fun {i j} (h : i < j) => Or.inr ⟨rfl, by show (i : Int) < (j : Int); omega⟩), List.pairwise_lt_range.imp fun {u v} h x hx y hy => ?_⟩
  obtain ⟨_, _, rfl⟩ := List.mem_map.mp hx
  obtain ⟨_, _, rfl⟩ := List.mem_map.mp hy
  exact .inl (by show (_ : Int) < _; omega)
theorem raF_len (n : Nat) (f : Nat → Nat → Bool) : (raF n f).length ≤ n * n := by
  unfold raF
  have := flat_lenB (l := List.range n) (f := fun a => ((List.range n).filter fun b => !f b a).map fun b : Nat => ((a : Int), (b : Int))) (c := n) fun a _ => by
    rw [List.length_map]
    exact Nat.le_trans (List.length_filter_le ..) (by rw [List.length_range]; exact Nat.le_refl _)
  rw [List.length_range] at this
  exact this
def rowR (n : Nat) (f : Nat → Nat → Bool) (a j : Nat) : List (Int × Int) := ((List.range j).filter fun b => !f b a).map fun b : Nat => ((a : Int), (b : Int))
theorem rowR_succ (n : Nat) (f : Nat → Nat → Bool) (a j : Nat) : rowR n f a (j + 1) = rowR n f a j ++ (if f j a = true then [] else [((a : Int), (j : Int))]) := by
  unfold rowR
  rw [List.range_succ, List.filter_append, List.map_append]
  cases h : f j a <;> simp [h]
theorem rowR_len (n : Nat) (f : Nat → Nat → Bool) (a j : Nat) : (rowR n f a j).length ≤ j := by
  unfold rowR
  rw [List.length_map]
  exact Nat.le_trans (List.length_filter_le ..) (by rw [List.length_range]; exact Nat.le_refl _)
def raU (n : Nat) (f : Nat → Nat → Bool) (i : Nat) : List (Int × Int) := (List.range i).flatMap fun a => rowR n f a n
theorem raU_len (n : Nat) (f : Nat → Nat → Bool) (i : Nat) : (raU n f i).length ≤ i * n := by
  unfold raU
  have := flat_lenB (l := List.range i) (f := fun a => rowR n f a n) (c := n) fun a _ => rowR_len n f a n
  rw [List.length_range] at this
  exact this
theorem raU_succ (n : Nat) (f : Nat → Nat → Bool) (i : Nat) : raU n f (i + 1) = raU n f i ++ rowR n f i n := by
  unfold raU
  rw [List.range_succ, List.flatMap_append, List.flatMap_singleton]
def f_rule_arrows (a : Ad) : List M → Option Br
  | [.sh (.ob C [(f, .lst es)])] => some ⟨OrdO a.Order C f es, fun m => m = .ow ((raF es.length (bt (natsL es))).map prE), fun _ _ => False⟩
  | _ => none
theorem ok_rule_arrows (T : Txt K mg a d) : FnOk P w K mg base CX0 7 a.rule_arrows d.rule_arrows ["order"] (spC (ctF (f_rule_arrows a))) := by
  refine T.F_rule_arrows.ok sc_rule_arrows (fun vs H Q E h => spF_len (fun ms b hf => by unfold f_rule_arrows at hf; split at hf <;> first | rfl | cases hf) h) (fun cdv A outer s H vs Q E hr h => ⟨_, (pss_one (ps_ret (pe_lc2 (own := [("a", 1), ("b", 2)]) (g := gName 1) (tt := tYes) (g1 := gName 2) (vs1 := [2]) rfl sc_rule_arrows.nd (pi_range1 rfl T.m_range (pa_cons (pe_callB (call_lenI T.mt_Order__len__ (ok_Order__len__ (P := P) T) (hr.mono (by omega)) T.b_Order__len__) (by rfl) T.m_len bt_len (pa_cons (pv 0) pa_nil)) pa_nil)) (blkOk_by (N := ["order", "a", "b"]) (sc := defScope s_rule_arrows) (by decide +kernel)) (by decide) (fun _ _ _ _ _ => (pg_name (i := 1) sc_rule_arrows.nd rfl (by first | exact Or.inl rfl | exact Or.inr rfl))) (fun _ _ _ _ _ => pts_nil) (fun _ _ _ _ _ => (pi_range1 rfl T.m_range (pa_cons (pe_callB (call_lenI T.mt_Order__len__ (ok_Order__len__ (P := P) T) (hr.mono (by omega)) T.b_Order__len__) (by rfl) T.m_len bt_len (pa_cons (pv 0) pa_nil)) pa_nil))) (fun _ _ _ _ _ => (pg_name (i := 2) sc_rule_arrows.nd rfl (by first | exact Or.inl rfl | exact Or.inr rfl))) (fun _ _ _ _ _ => pts_one (pt_val (pe_call (ok_joins (P := P) T) (hr.mono (by omega)) rfl T.g_joins T.F_joins.kp T.b_joins .nil passL (pa_cons (pv 0) (pa_cons (pv 1) (pa_cons (pv 2) pa_nil)))))) (fun _ _ _ _ _ => (pe_tup (pa_cons (pv 1) (pa_cons (pv 2) pa_nil))))))), p_bodyF h fun ms b hf hp => ?_⟩)
  unfold f_rule_arrows at hf
  split at hf
  rotate_right
  · cases hf
  · rename_i C f es
    cases hf
    obtain ⟨rfl, rfl, rs, rfl, O⟩ := (show OrdO a.Order C f es from hp)
    have zl : sizeLine = 16777216 := sizeLine_eq
    have hz := O.len
    have iso : isOf K a.Order (ordE a rs) true := iso_self T.is_Order
    rw [natsL_nat, List.length_map]
    have hl : (rs.map natE).length = rs.length := List.length_map ..
    refine q_ret ?_
    refine p_lc2 (fun L i acc => L.length = rs.length ∧ acc = (raU rs.length (bt rs) i).map prE) ?_ (by decide)
    row_hasAny pu
    refine v_lenI (g := f_Order__len__ a) rfl ⟨rfl, rfl⟩ (by omega) (by omega) ?_
    row_hasAny pu
    refine ⟨⟨by rw [rng_len]; omega, rfl⟩, ?_, ?_⟩
    · rintro i e acc he ⟨hL, rfl⟩
      have hi := (List.getElem?_eq_some_iff.mp he).1
      rw [hL] at hi
      obtain ⟨_, rfl⟩ := rng_at he
      rw [Int.zero_add]
      have hU := raU_len rs.length (bt rs) i
      have hm2 : (i + 1) * rs.length ≤ 200 * 200 := Nat.mul_le_mul (by omega) hz
      rw [Nat.succ_mul] at hm2
      row_hasAny pu
      refine v_lenI (g := f_Order__len__ a) rfl ⟨rfl, rfl⟩ (by omega) (by omega) ?_
      row_hasAny pu
      refine ⟨fun j acc1 => acc1 = (raU rs.length (bt rs) i ++ rowR rs.length (bt rs) i j).map prE, by unfold rowR; simp, ?_, ?_⟩
      · rintro j e1 acc1 he1 rfl
        have hj := (List.getElem?_eq_some_iff.mp he1).1
        rw [rng_len] at hj
        obtain ⟨_, rfl⟩ := rng_at he1
        rw [Int.zero_add]
        have hRl := rowR_len rs.length (bt rs) i j
        row_hasAny pu
        refine u_joins O hi (by omega) iso ?_
        have hle : ((raU rs.length (bt rs) i ++ rowR rs.length (bt rs) i j).map prE).length < sizeLine := by rw [List.length_map, List.length_append]; omega
        cases hb : bt rs j i with
        | true =>
          row_hasAny pu
          exact ⟨rfl, by show _ = _; rw [rowR_succ, hb]; simp⟩
        | false =>
          row_hasAny pu
          exact ⟨rfl, _, rfl, hle, by show _ = _; rw [rowR_succ, hb]; simp [prE]⟩
      · refine ⟨rfl, ?_⟩
        rintro acc1 rfl
        rw [rng_len]
        refine ⟨by omega, ?_⟩
        rw [raU_succ, Int.toNat_natCast, hl]
    · rintro acc ⟨hL, rfl⟩
      rw [hL]
      exact rfl

/-! ### order_web -/
--@hint len(order) => own Order
def f_order_web (K : PySem.W.Frag) (a : Ad) : List M → Option Br
  | [.sh e] => some ⟨ordOr K a e, fun m => ∃ (rs : List Nat) (ks : List (Int × Int)), OrdT rs ∧ e = ordE a rs ∧ (raF rs.length (bt rs)).length ≤ 2000 ∧ m = .sh (.ob a.Web (webF rs.length ks (raF rs.length (bt rs)))) ∧ Wb rs.length ks (raF rs.length (bt rs)),
      fun cls xd => (isOf K a.Order e false ∧ cls = .ref a.BadOrder ∧ xd = .one "bad_at" .non) ∨ ∃ rs, OrdT rs ∧ e = ordE a rs ∧ 2000 < (raF rs.length (bt rs)).length ∧ cls = .ref a.TooMany ∧ xd = .one "most" (.int 2000)⟩
  | _ => none
theorem raF_within (n : Nat) (f : Nat → Nat → Bool) : Within n (raF n f) := fun q hq => by
  obtain ⟨a, b, ha, hb, _, rfl⟩ := mem_raF.mp hq
  exact ⟨by show (0 : Int) ≤ _; omega, by show _ < (n : Int); omega, by show (0 : Int) ≤ _; omega, by show _ < (n : Int); omega⟩
theorem ok_order_web (T : Txt K mg a d) : FnOk P w K mg base (L2.CX P w) 8 a.order_web d.order_web ["order"] (spC (ctF (f_order_web K a))) := by
  refine T.F_order_web.okX sc_order_web (fun vs H Q E h => spF_len (fun ms b hf => by unfold f_order_web at hf; split at hf <;> first | rfl | cases hf) h) (fun cdv A outer s H vs Q E hr h => ⟨_, (pss_cons (ps_expr (pe_call (ok_check_order (P := P) T) (hr.mono (by omega)) rfl T.g_check_order T.F_check_order.kp T.b_check_order .nil (passes_call (takes_of rfl rfl rfl rfl) (fun _ _ _ _ z => z)) (pa_cons (pv 0) pa_nil)))
      (pss_one (ps_ret (pe_make T.mk_Web (ok_Web__init__ (P := P) T) (hr.mono (by omega)) rfl T.g_Web T.bm_0.choose_spec.2 T.bm_0.choose_spec.1 (passes_call (takes_of rfl rfl rfl rfl) (fun _ _ _ _ z => z)) (pa_cons (pe_callB (call_lenI T.mt_Order__len__ (ok_Order__len__ (P := P) T) (hr.mono (by omega)) T.b_Order__len__) (by rfl) T.m_len bt_len (pa_cons (pv 0) pa_nil)) (pa_cons (pe_call (ok_rule_arrows (P := P) T) (hr.mono (by omega)) rfl T.g_rule_arrows T.F_rule_arrows.kp T.b_rule_arrows .nil pass0 (pa_cons (pv 0) pa_nil)) pa_nil)))))), p_bodyF h fun ms b hf hp => ?_⟩)
  unfold f_order_web at hf
  split at hf
  rotate_right
  · cases hf
  · rename_i e
    cases hf
    rcases (show ordOr K a e from hp) with ⟨rs, O, rfl⟩ | ho
    · have iso : isOf K a.Order (ordE a rs) true := iso_self T.is_Order
      have hz := O.len
      have hl : (rs.map natE).length = rs.length := List.length_map ..
      have hR := raF_len rs.length (bt rs)
      have hm2 : rs.length * rs.length ≤ 200 * 200 := Nat.mul_le_mul hz hz
      have hl2 : rs.length ≤ 2000 := by omega
      have hs : arrS (raF rs.length (bt rs)) = raF rs.length (bt rs) := arrS_self (raF_asc _ _)
      have hW := raF_within rs.length (bt rs)
      row_hasAny pu
      refine ⟨_, rfl, ⟨_, iso⟩, fun cls xd h => .inl ⟨h.2.2, h.1, h.2.1⟩, fun m hm => ?_⟩
      obtain ⟨rfl, _⟩ := hm
      row_hasAny pu
      refine v_lenI (g := f_Order__len__ a) rfl ⟨rfl, rfl⟩ (by omega) (by omega) ?_
      row_hasAny pu
      refine ⟨_, rfl, ⟨rfl, rfl, rs, rfl, O⟩, fun _ _ z => z.elim, fun m hm => ?_⟩
      obtain rfl := hm
      rw [natsL_nat, List.length_map]
      row_hasAny pu
      refine u_WebX hl2 (by omega) hW (fun hN => ?_) fun h => ?_
      · rw [hs] at hN ⊢
        exact ⟨rs, _, O, rfl, hN.t.len, rfl, hN⟩
      · rw [hs] at h
        exact .inr ⟨rs, O, rfl, h, rfl, rfl⟩
    · row_hasAny pu
      refine ⟨_, rfl, ⟨_, ho⟩, fun cls xd h => .inl ⟨h.2.2, h.1, h.2.1⟩, fun m hm => ?_⟩
      exact absurd (iso_fun ho hm.2) (by decide)

/-! ### _read_order -/
--@hint (b, a) not in web => own Web
--@hint len(web) => own Web
def tF (As : List (Int × Int)) (a b : Nat) : Bool := !decide (((b : Int), (a : Int)) ∈ As)
def rdR (As : List (Int × Int)) (b j : Nat) : List (Int × Int) := ((List.range j).filter fun a => tF As a b).map fun a : Nat => ((a : Int), (b : Int))
def rdL (n : Nat) (As : List (Int × Int)) : List (Int × Int) := (List.range n).flatMap fun b => rdR As b b
/-- a table of an order -/
def isT (n : Nat) (f : Nat → Nat → Bool) : Prop := (∀ a, a < n → f a a = true) ∧ (∀ a b, a < n → b < a → f a b = false) ∧ ∀ a b c, a < b → b < c → c < n → f a b = true → f b c = true → f a c = true
theorem mem_rdL {n : Nat} {As : List (Int × Int)} {q : Int × Int} : q ∈ rdL n As ↔ ∃ a b : Nat, a < b ∧ b < n ∧ tF As a b = true ∧ q = ((a : Int), (b : Int)) := by
  unfold rdL rdR
  simp only [List.mem_flatMap, List.mem_map, List.mem_filter, List.mem_range]
  constructor
  · rintro ⟨b, hb, a, ⟨ha, h⟩, rfl⟩
    exact ⟨a, b, ha, hb, h, rfl⟩
  · rintro ⟨a, b, ha, hb, h, rfl⟩
    exact ⟨b, hb, a, ⟨ha, h⟩, rfl⟩
theorem rdL_rising (n : Nat) (As : List (Int × Int)) : Rising n (rdL n As) := fun q hq => by
  obtain ⟨a, b, ha, hb, _, rfl⟩ := mem_rdL.mp hq
  exact ⟨by show (0 : Int) ≤ _; omega, by show (a : Int) < (b : Int); omega, by show (b : Int) < (n : Int); omega⟩
theorem rdR_succ (As : List (Int × Int)) (b j : Nat) : rdR As b (j + 1) = rdR As b j ++ (if tF As j b = true then [((j : Int), (b : Int))] else []) := by
  unfold rdR
  rw [List.range_succ, List.filter_append, List.map_append]
  cases h : tF As j b <;> simp [h]
theorem rdR_len (As : List (Int × Int)) (b j : Nat) : (rdR As b j).length ≤ j := by
  unfold rdR
  rw [List.length_map]
  exact Nat.le_trans (List.length_filter_le ..) (by rw [List.length_range]; exact Nat.le_refl _)
theorem rdL_succ (n : Nat) (As : List (Int × Int)) : rdL (n + 1) As = rdL n As ++ rdR As n n := by
  unfold rdL
  rw [List.range_succ, List.flatMap_append, List.flatMap_singleton]
theorem rdL_len (n m : Nat) (As : List (Int × Int)) (h : n ≤ m) : (rdL n As).length ≤ n * m := by
  unfold rdL
  have := flat_lenB (l := List.range n) (f := fun b => rdR As b b) (c := m) fun b hb => by
    have := rdR_len As b b
    have := List.mem_range.mp hb
    omega
  rw [List.length_range] at this
  exact this
theorem reach_tF {n : Nat} {As : List (Int × Int)} {rs : List Nat} (h : isT n (tF As)) (hI : IsReach n (rdL n As) rs) : ∀ a b, a < n → b < n → bt rs a b = tF As a b := fun a b ha hb => by
  rw [Bool.eq_iff_iff, show bt rs a b = true ↔ Rch (rdL n As) a b from hI.2 a b ha]
  constructor
  · intro hr
    have key : ∀ {u v : Int}, Rch (rdL n As) u v → ∀ x y : Nat, u = (x : Int) → v = (y : Int) → x < n → y < n → tF As x y = true := fun hr => by
      induction hr with
      | refl u =>
        intro x y e1 e2 hx _
        obtain rfl : x = y := by omega
        exact h.1 x hx
      | step hq _ ih =>
        intro x y e1 e2 hx hy
        obtain ⟨p, q, hp, hq2, hf, e⟩ := mem_rdL.mp hq
        have e3 := congrArg Prod.fst e
        have e4 := congrArg Prod.snd e
        simp only at e3 e4
        have h2 := ih q y e4 e2 hq2 hy
        obtain rfl : x = p := by omega
        rcases Nat.lt_trichotomy q y with g | g | g
        · exact h.2.2 x q y hp g hy hf h2
        · subst g
          exact hf
        · rw [h.2.1 q y hq2 g] at h2
          cases h2
    exact key hr a b rfl rfl ha hb
  · intro hf
    rcases Nat.lt_trichotomy a b with g | g | g
    · exact .step (mem_rdL.mpr ⟨a, b, g, hb, hf, rfl⟩) (.refl _)
    · subst g
      exact .refl _
    · rw [h.2.1 a b ha g] at hf
      cases hf
theorem ord_isT {n : Nat} {As : List (Int × Int)} {rs : List Nat} (O : OrdT rs) (hl : rs.length = n) (h : ∀ a b, a < n → b < n → bt rs a b = tF As a b) : isT n (tF As) := by
  refine ⟨fun a ha => ?_, fun a b ha hb => ?_, fun a b c hab hbc hc h1 h2 => ?_⟩
  · rw [← h a a ha ha]
    exact O.refl a (by omega)
  · rw [← h a b ha (by omega)]
    cases e : bt rs a b with
    | false => rfl
    | true =>
      have := (O.rng a b e).1
      omega
  · rw [← h a b (by omega) (by omega)] at h1
    rw [← h b c (by omega) hc] at h2
    rw [← h a c (by omega) hc]
    exact O.trans a b c h1 h2
theorem raF_ext {n : Nat} {As : List (Int × Int)} {f : Nat → Nat → Bool} (asc : As.Pairwise plt) (hW : Within n As) : As = raF n f ↔ ∀ a b, a < n → b < n → f a b = tF As a b := by
  constructor
  · intro h a b ha hb
    unfold tF
    rw [h]
    cases e : f a b with
    | true =>
      rw [decide_eq_false]
      · rfl
      · intro hm
        obtain ⟨x, y, _, _, h3, h4⟩ := mem_raF.mp hm
        have e3 := congrArg Prod.fst h4
        have e4 := congrArg Prod.snd h4
        simp only at e3 e4
        obtain rfl : b = x := by omega
        obtain rfl : a = y := by omega
        rw [e] at h3
        cases h3
    | false =>
      rw [decide_eq_true]
      · rfl
      · exact mem_raF.mpr ⟨b, a, hb, ha, e, rfl⟩
  · intro h
    refine plt_one asc (raF_asc _ _) ((List.perm_ext_iff_of_nodup (plt_nd asc) (plt_nd (raF_asc _ _))).mpr fun q => ?_)
    rw [mem_raF]
    constructor
    · intro hq
      obtain ⟨h1, h2, h3, h4⟩ := hW q hq
      refine ⟨q.1.toNat, q.2.toNat, by omega, by omega, ?_, Prod.ext (by show q.1 = _; omega) (by show q.2 = _; omega)⟩
      rw [h _ _ (by omega) (by omega)]
      unfold tF
      rw [show ((q.1.toNat : Int), (q.2.toNat : Int)) = q from Prod.ext (by show _ = q.1; omega) (by show _ = q.2; omega), decide_eq_true hq]
      rfl
    · rintro ⟨a, b, ha, hb, hf, rfl⟩
      rw [h b a hb ha] at hf
      unfold tF at hf
      simp only [Bool.not_eq_false', decide_eq_true_eq] at hf
      exact hf
theorem raF_big {rs : List Nat} (O : OrdT rs) (h : 64 ≤ rs.length) : 2000 < (raF rs.length (bt rs)).length := by
  have h1 : (raF 64 fun b a => decide (b ≤ a)).length = 2016 := by decide +kernel
  have h2 := nodup_sub_len (m := raF rs.length (bt rs)) (plt_nd (raF_asc 64 fun b a => decide (b ≤ a))) fun q hq => by
    obtain ⟨a, b, ha, hb, hf, rfl⟩ := mem_raF.mp hq
    refine mem_raF.mpr ⟨a, b, by omega, by omega, ?_, rfl⟩
    have := of_decide_eq_false hf
    cases e : bt rs b a with
    | false => rfl
    | true =>
      have := (O.rng b a e).1
      omega
  omega
def f_read_order (a : Ad) : List M → Option Br
  | [.sh w] => some ⟨∃ n ks As, w = .ob a.Web (webF n ks As) ∧ Wb n ks As ∧ n ≤ 200, fun m => ∃ (n : Nat) (ks As : List (Int × Int)) (rs : List Nat), w = .ob a.Web (webF n ks As) ∧ Wb n ks As ∧ OrdT rs ∧ IsReach n (rdL n As) rs ∧ m = .sh (ordE a rs), fun _ _ => False⟩
  | _ => none
theorem ok_read_order (T : Txt K mg a d) : FnOk P w K mg base (L2.CX P w) 6 a.read_order d.read_order ["web"] (spC (ctF (f_read_order a))) := by
  refine T.F_read_order.okX sc_read_order (fun vs H Q E h => spF_len (fun ms b hf => by unfold f_read_order at hf; split at hf <;> first | rfl | cases hf) h) (fun cdv A outer s H vs Q E hr h => ⟨_, (pss_one (ps_ret (pe_make T.mk_Order (ok_Order__init__ (P := P) T) (hr.mono (by omega)) rfl T.g_Order T.bm_1.choose_spec.2 T.bm_1.choose_spec.1 (passes_call (takes_of rfl rfl rfl rfl) (fun _ _ _ _ z => z)) (pa_cons (pe_callB (call_lenI T.mt_Web__len__ (ok_Web__len__ (P := P) T) (hr.mono (by omega)) T.b_Web__len__) (by rfl) T.m_len bt_len (pa_cons (pv 0) pa_nil)) (pa_cons (pe_lc2 (own := [("b", 1), ("a", 2)]) (g := gName 1) (tt := tYes) (g1 := gName 2) (vs1 := [2]) rfl sc_read_order.nd (pi_range1 rfl T.m_range (pa_cons (pe_callB (call_lenI T.mt_Web__len__ (ok_Web__len__ (P := P) T) (hr.mono (by omega)) T.b_Web__len__) (by rfl) T.m_len bt_len (pa_cons (pv 0) pa_nil)) pa_nil)) (blkOk_by (N := ["web", "b", "a"]) (sc := defScope s_read_order) (by decide +kernel)) (by decide) (fun _ _ _ _ _ => (pg_name (i := 1) sc_read_order.nd rfl (by first | exact Or.inl rfl | exact Or.inr rfl))) (fun _ _ _ _ _ => pts_nil) (fun _ _ _ _ _ => (pi_range1 rfl T.m_range (pa_cons (pv 1) pa_nil))) (fun _ _ _ _ _ => (pg_name (i := 2) sc_read_order.nd rfl (by first | exact Or.inl rfl | exact Or.inr rfl))) (fun _ _ _ _ _ => pts_one (pt_cmpR (op_ninI T.mt_Web__contains__ (ok_Web__contains__ (P := P) T) (hr.mono (by omega)) T.b_Web__contains__) (pe_tup (pa_cons (pv 1) (pa_cons (pv 2) pa_nil))) (pv 0) rfl)) (fun _ _ _ _ _ => (pe_tup (pa_cons (pv 2) (pa_cons (pv 1) pa_nil))))) pa_nil))))), p_bodyF h fun ms b hf hp => ?_⟩)
  unfold f_read_order at hf
  split at hf
  rotate_right
  · cases hf
  · rename_i w
    cases hf
    obtain ⟨n, ks, As, rfl, hWb, hn⟩ := (show ∃ n ks As, w = .ob a.Web (webF n ks As) ∧ Wb n ks As ∧ n ≤ 200 from hp)
    have zl : sizeLine = 16777216 := sizeLine_eq
    have hw := (hWb.e a.Web).wN
    row_hasAny pu
    refine u_lenW hWb ?_
    row_hasAny pu
    refine p_lc2 (fun L i acc => L.length = n ∧ acc = (rdL i As).map prE) ?_ (by decide)
    row_hasAny pu
    refine u_lenW hWb ?_
    row_hasAny pu
    refine ⟨⟨by rw [rng_len]; omega, rfl⟩, ?_, ?_⟩
    · rintro i e acc he ⟨hL, rfl⟩
      have hi := (List.getElem?_eq_some_iff.mp he).1
      rw [hL] at hi
      obtain ⟨_, rfl⟩ := rng_at he
      rw [Int.zero_add]
      have hU := rdL_len i n As (by omega)
      have hm2 : (i + 1) * n ≤ 200 * 200 := Nat.mul_le_mul (by omega) hn
      rw [Nat.succ_mul] at hm2
      row_hasAny pu
      refine ⟨fun j acc1 => acc1 = (rdL i As ++ rdR As i j).map prE, by unfold rdR; simp, ?_, ?_⟩
      · rintro j e1 acc1 he1 rfl
        have hj := (List.getElem?_eq_some_iff.mp he1).1
        rw [rng_len] at hj
        obtain ⟨_, rfl⟩ := rng_at he1
        rw [Int.zero_add]
        have hRl := rdR_len As i j
        have hle : ((rdL i As ++ rdR As i j).map prE).length < sizeLine := by rw [List.length_map, List.length_append]; omega
        row_hasAny pu
        refine u_contN hWb ?_
        have hb : (!decide (((i : Int), (j : Int)) ∈ As)) = tF As j i := rfl
        rw [hb]
        cases hb : tF As j i with
        | true =>
          row_hasAny pu
          exact ⟨rfl, _, rfl, hle, by show _ = _; rw [rdR_succ, hb]; simp [prE]⟩
        | false =>
          row_hasAny pu
          exact ⟨rfl, by show _ = _; rw [rdR_succ, hb]; simp⟩
      · refine ⟨rfl, ?_⟩
        rintro acc1 rfl
        refine ⟨by omega, ?_⟩
        rw [rdL_succ, rng_len, Int.toNat_natCast]
    · rintro acc ⟨hL, rfl⟩
      rw [hL]
      have h1 := rdL_len n n As (Nat.le_refl _)
      have h2 : n * n ≤ 200 * 200 := Nat.mul_le_mul hn hn
      row_hasAny pu
      refine u_OrdS hn (es := (rdL n As).map prE) rfl (allPr_map _) (fun x hx => by
        obtain ⟨p, _, rfl⟩ := List.mem_map.mp hx
        rfl) (by rw [List.length_map]; omega) (rdL_rising n As) fun rs hI O => ?_
      exact ⟨n, ks, As, rs, rfl, hWb, O, hI, rfl⟩

/-! ### is_order_web -/
--@hint len(web) => own Web
--@used o Web
/-- what is_order_web answers -/
def owP (n : Nat) (As : List (Int × Int)) : Prop := n ≤ 63 ∧ isT n (tF As)
def webOr (K : PySem.W.Frag) (a : Ad) (e : Pl.E) : Prop := (∃ n ks As, Wb n ks As ∧ e = .ob a.Web (webF n ks As)) ∨ isOf K a.Web e false
def f_is_order_web (K : PySem.W.Frag) (a : Ad) : List M → Option Br
  | [.sh e] => some (brs (webOr K a e) fun R => (isOf K a.Web e false → R (.sh (.bl false))) ∧ ∀ n ks As, Wb n ks As → e = .ob a.Web (webF n ks As) → (owP n As → R (.sh (.bl true))) ∧ (¬ owP n As → R (.sh (.bl false))))
  | _ => none
theorem webF_inj {n m : Nat} {ks As js Bs : List (Int × Int)} {C D : Addr} (h1 : Wb n ks As) (h2 : Wb m js Bs) (h : Pl.E.ob C (webF n ks As) = .ob D (webF m js Bs)) : n = m ∧ As = Bs := by
  have e1 := (h1.e C).wN
  have e2 := (h2.e D).wN
  have e3 := (h1.e C).wA
  have e4 := (h2.e D).wA
  rw [h] at e1 e3
  exact ⟨e1.symm.trans e2, e3.symm.trans e4⟩
theorem ok_is_order_web (T : Txt K mg a d) : FnOk P w K mg base CX0 8 a.is_order_web d.is_order_web ["web"] (spC (ctF (f_is_order_web K a))) := by
  refine T.F_is_order_web.ok sc_is_order_web (fun vs H Q E h => spF_len (fun ms b hf => by unfold f_is_order_web at hf; split at hf <;> first | rfl | cases hf) h) (fun cdv A outer s H vs Q E hr h => ⟨_, (pss_cons (ps_if (PW.pt (pw_or (pt_not (pt_val (pe_callB (k_isi K) (by rfl) T.m_isinstance bt_isinstance (pa_cons (pv 0) (pa_cons (pe_glob (v := .ref a.Web) rfl T.g_Web rfl) pa_nil))))) (pw_or1 (pt_cmpR op_gt (pe_callB (call_lenI T.mt_Web__len__ (ok_Web__len__ (P := P) T) (hr.mono (by omega)) T.b_Web__len__) (by rfl) T.m_len bt_len (pa_cons (pv 0) pa_nil)) (pe_glob (v := .int 200) rfl T.c_MOST_THINGS.choose_spec ⟨_, rfl⟩) (nomark _))))) (pss_one (ps_ret pe_bl)) pss_nil)
      (pss_one (ps_ret (pe_cmpR (k_eq K hr.units) (pe_prop (pv 0) T.is_Web.cl T.pr_Web_arrows (ok_Web_arrows (P := P) T) (hr.mono (by omega)) T.b_Web_arrows .nil pass0 rfl) (pe_call (ok_rule_arrows (P := P) T) (hr.mono (by omega)) rfl T.g_rule_arrows T.F_rule_arrows.kp T.b_rule_arrows .nil pass0 (pa_cons (pe_call (ok_read_order (P := P) T) (hr.mono (by omega)) rfl T.g_read_order T.F_read_order.kp T.b_read_order .nil passL (pa_cons (pv 0) pa_nil)) pa_nil)) (nomark _))))), p_bodyF h fun ms b hf hp => ?_⟩)
  unfold f_is_order_web at hf
  split at hf
  rotate_right
  · cases hf
  · rename_i e
    cases hf
    have ho : webOr K a e := hp
    have zl : sizeLine = 16777216 := sizeLine_eq
    rcases ho with ⟨n, ks, As, hWb, rfl⟩ | ho
    · have iso : isOf K a.Web (.ob a.Web (webF n ks As)) true := iso_self T.is_Web
      have hw := (hWb.e a.Web).wN
      have hn2 := hWb.t.n2
      have fin : ∀ {b : Bool}, (b = true ↔ owP n As) → ∀ R : M → Prop, ((isOf K a.Web (.ob a.Web (webF n ks As)) false → R (.sh (.bl false))) ∧ ∀ n' ks' As', Wb n' ks' As' → Pl.E.ob a.Web (webF n ks As) = .ob a.Web (webF n' ks' As') → (owP n' As' → R (.sh (.bl true))) ∧ (¬ owP n' As' → R (.sh (.bl false)))) → R (.sh (.bl b)) := fun {b} hb R k => by
        cases b with
        | true => exact (k.2 n ks As hWb rfl).1 (hb.mp rfl)
        | false => exact (k.2 n ks As hWb rfl).2 fun h => by cases hb.mpr h
      row_hasAny pu
      refine u_lenW hWb ?_
      row_hasAny pu
      refine if_d (fun h => ?_) (fun h => ?_)
      · row_hasAny pu
        exact fin ⟨nofun, fun h2 => by have := h2.1; omega⟩
      · row_hasAny pu
        refine u_arrows hWb ?_
        row_hasAny pu
        refine ⟨_, rfl, ⟨n, ks, As, rfl, hWb, by omega⟩, fun _ _ z => z.elim, fun m hm => ?_⟩
        obtain ⟨n', ks', As', rs, e, hWb', O, hI, rfl⟩ := hm
        obtain ⟨rfl, rfl⟩ := webF_inj hWb hWb' e
        row_hasAny pu
        refine ⟨_, rfl, ⟨rfl, rfl, rs, rfl, O⟩, fun _ _ z => z.elim, fun m hm => ?_⟩
        obtain rfl := hm
        rw [natsL_nat, List.length_map]
        row_hasAny pu
        refine v_eqP (pairs_lay _) (pairs_lay _) (Nat.le_trans (pairs_dep _) (by decide)) (Nat.le_trans (pairs_dep _) (by decide)) ?_
        rw [eqE_prs]
        refine fin ?_
        rw [decide_eq_true_iff, hI.1, raF_ext hWb.t.asc hWb.t.rng]
        constructor
        · intro h2
          refine ⟨?_, ord_isT O hI.1 h2⟩
          refine Classical.byContradiction fun h3 => ?_
          have h4 := raF_big O (by rw [hI.1]; omega)
          rw [hI.1, ← (raF_ext hWb.t.asc hWb.t.rng).mpr h2] at h4
          have := hWb.t.len
          omega
        · intro h2
          exact reach_tF h2.2 hI
    · row_hasAny pu
      exact fun R k => k.1 ho

/-! ### order_of_web -/
--@used x BadWeb
def f_order_of_web (K : PySem.W.Frag) (a : Ad) : List M → Option Br
  | [.sh e] => some ⟨webOr K a e, fun m => ∃ (n : Nat) (ks As : List (Int × Int)) (rs : List Nat), e = .ob a.Web (webF n ks As) ∧ Wb n ks As ∧ owP n As ∧ OrdT rs ∧ rs.length = n ∧ (∀ x y, x < n → y < n → bt rs x y = tF As x y) ∧ m = .sh (ordE a rs),
      fun cls xd => cls = .ref a.BadWeb ∧ xd = .one "bad_at" .non ∧ (isOf K a.Web e false ∨ ∃ n ks As, Wb n ks As ∧ e = .ob a.Web (webF n ks As) ∧ ¬ owP n As)⟩
  | _ => none
theorem ok_order_of_web (T : Txt K mg a d) : FnOk P w K mg base (L2.CX P w) 9 a.order_of_web d.order_of_web ["web"] (spC (ctF (f_order_of_web K a))) := by
  refine T.F_order_of_web.okX sc_order_of_web (fun vs H Q E h => spF_len (fun ms b hf => by unfold f_order_of_web at hf; split at hf <;> first | rfl | cases hf) h) (fun cdv A outer s H vs Q E hr h => ⟨_, (pss_cons (ps_if (pt_not (pt_val (pe_call (ok_is_order_web (P := P) T) (hr.mono (by omega)) rfl T.g_is_order_web T.F_is_order_web.kp T.b_is_order_web .nil pass0 (pa_cons (pv 0) pa_nil)))) (pss_one (ps_raise1 (f := "bad_at") rfl (takes_of rfl rfl rfl rfl) T.o_BadWeb T.i_BadWeb T.ti_BadWeb (ok_BadWeb__init__ (P := P) T) (hr.mono (by omega)) T.b_BadWeb__init__ T.g_BadWeb (pa_cons pe_non pa_nil) mono_cc)) pss_nil)
      (pss_one (ps_ret (pe_call (ok_read_order (P := P) T) (hr.mono (by omega)) rfl T.g_read_order T.F_read_order.kp T.b_read_order .nil (passes_call (takes_of rfl rfl rfl rfl) (fun _ _ _ _ z => z)) (pa_cons (pv 0) pa_nil))))), p_bodyF h fun ms b hf hp => ?_⟩)
  unfold f_order_of_web at hf
  split at hf
  rotate_right
  · cases hf
  · rename_i e
    cases hf
    have ho : webOr K a e := hp
    rcases ho with ⟨n, ks, As, hWb, rfl⟩ | ho
    · by_cases how : owP n As
      · row_hasAny pu
        refine ⟨fun h => absurd (iso_fun (iso_self T.is_Web) h) (by decide), fun n' ks' As' hWb' e => ?_⟩
        obtain ⟨rfl, rfl⟩ := webF_inj hWb hWb' e
        refine ⟨fun _ => ?_, fun h => absurd how h⟩
        row_hasAny pu
        refine ⟨_, rfl, ⟨n, ks, As, rfl, hWb, by have := how.1; omega⟩, fun _ _ z => z.elim, fun m hm => ?_⟩
        obtain ⟨n', ks'', As', rs, e, hWb'', O, hI, rfl⟩ := hm
        obtain ⟨rfl, rfl⟩ := webF_inj hWb hWb'' e
        exact ⟨n, ks, As, rs, rfl, hWb, how, O, hI.1, reach_tF how.2 hI, rfl⟩
      · row_hasAny pu
        refine ⟨fun h => absurd (iso_fun (iso_self T.is_Web) h) (by decide), fun n' ks' As' hWb' e => ?_⟩
        obtain ⟨rfl, rfl⟩ := webF_inj hWb hWb' e
        refine ⟨fun h => absurd h how, fun _ => ?_⟩
        row_hasAny pu
        exact ⟨rfl, rfl, .inr ⟨n, ks, As, hWb, rfl, how⟩⟩
    · row_hasAny pu
      refine ⟨fun h => ?_, fun n ks As hWb e => ?_⟩
      · row_hasAny pu
        exact ⟨rfl, rfl, .inl ho⟩
      · subst e
        exact absurd (iso_fun ho (iso_self T.is_Web)) (by decide)

/-! ### _law_mix -/
/-- the generator's own number: any from 0 to 2 ^ 61 - 2 -/
def sp_law_mix : Sp := fun vs H Q _ => ∃ (v s : Int), vs = [.int v, .int s] ∧ ∀ r : Int, 0 ≤ r → r < 2305843009213693951 → Q (.int r) H
theorem ok_law_mix (T : Txt K mg a d) : FnOk P w K mg base CX0 1 a.law_mix d.law_mix ["value", "step"] sp_law_mix := by
  refine T.F_law_mix.ok sc_law_mix (fun vs H Q E h => ?_) (fun cdv A outer s H vs Q E hr h => ⟨_, (pss_cons (ps_set (i := 2) sc_law_mix.nd rfl (by first | exact Or.inl rfl | exact Or.inr rfl) (pe_op op_mod' (pe_callTy call_int1' (by rfl) T.m_int bt_int (pa_cons (pe_op (k_add K) (pe_op op_mulG (pe_op (k_add K) (pv 0) pe_int) pe_int) (pe_op op_mulG (pe_op (k_add K) (pv 1) pe_int) pe_int)) pa_nil)) pe_int))
      (pss_one (ps_ret (pe_op op_mod' (pe_callTy call_int1' (by rfl) T.m_int bt_int (pa_cons (pe_op (k_add K) (pe_op op_mulG (pe_op (k_add K) (pe_op (k_add K) (pe_op op_div' (pv 2) pe_int) (pe_op op_mulG (pv 2) (pv 2))) pe_int) pe_int) (pv 1)) pa_nil)) pe_int)))), ?_⟩)
  · obtain ⟨v, s, rfl, _⟩ := h
    rfl
  · obtain ⟨v, s, rfl, k⟩ := h
    row_hasAny sx
    refine k _ ?_ ?_ <;> omega

/-! ### _law_store -/
def sp_law_store (K : PySem.W.Frag) : Sp := fun vs H Q _ => ∃ (q : Addr) (ns : List Int), vs = [.ref q] ∧ SqL K H q (ns.map V.int) ∧ ns.length ≤ 63 ∧
  ∀ p c H', H p = none → Same H H' → Sto H' p c → Q (.ref p) H'
theorem ok_law_store (T : Txt K mg a d) : FnOk P w K mg base CX0 1 a.law_store d.law_store ["script"] (sp_law_store K) := by
  refine T.F_law_store.ok sc_law_store (fun vs H Q E h => ?_) (fun cdv A outer s H vs Q E hr h => ⟨_, (pss_one (ps_ret (pe_lst (pa_cons (pe_lc (own := [("cell", 1)]) (g := gName 1) (tt := tYes) rfl sc_law_store.nd (pi_or (kp_list K (pv 0)) (kp_tup K (pv 0))) (blkOk_by (N := ["script", "cell"]) (sc := defScope s_law_store) (by decide +kernel)) (fun _ _ _ _ _ => (pg_name (i := 1) sc_law_store.nd rfl (by first | exact Or.inl rfl | exact Or.inr rfl))) (fun _ _ _ _ _ => pts_nil) (fun _ _ _ _ _ => (pe_callTy call_int1' (by rfl) T.m_int bt_int (pa_cons (pv 1) pa_nil)))) (pa_cons pe_int (pa_cons pe_int (pa_cons pe_int (pa_cons pe_int pa_nil)))))))), ?_⟩)
  · obtain ⟨q, ns, rfl, _⟩ := h
    rfl
  · obtain ⟨q, ns, rfl, hq, hn, k⟩ := h
    row_hasAny sx
    refine Or.inl (i_list (e_var rfl (i_list' hq (all_new fun L hL => ?_))))
    refine c_list (xs := ns.map V.int) (fun i H' => Same H H' ∧ H' L = some (.lst ((ns.take i).map V.int))) ⟨nw_new hL, upd_same⟩ (fun i H' _ h => h.1.seq hq) ?_ ?_
    · rintro i x H' hx ⟨s1, h1⟩
      obtain ⟨z, hz, rfl⟩ : ∃ z, ns[i]? = some z ∧ x = V.int z := by
        rw [List.getElem?_map] at hx
        cases e : ns[i]? with
        | none => rw [e] at hx; cases hx
        | some z => rw [e] at hx; exact ⟨z, rfl, (Option.some.inj hx).symm⟩
      row_hasAny sx
      refine ⟨_, h1, ?_, same_mut s1 hL, ?_⟩
      · rw [List.length_map]
        have := List.length_take_le' i ns
        have : sizeLine = 16777216 := sizeLine_eq
        omega
      · have e : (ns.take (i + 1)).map V.int = (ns.take i).map V.int ++ [V.int z] := by
          rw [List.take_succ, hz, List.map_append]
          rfl
        rw [e]
        exact upd_same
    · rintro H' ⟨s1, h1⟩
      rw [List.length_map, List.take_length] at h1
      row_hasAny sx
      rename_i p hp
      refine k p L _ (s1.free hp) (nw_up s1 hp) ⟨ns, 0, 0, 20261119, 0, upd_same, nw_new hp _ _ h1, nw_ne hp h1, Nat.zero_le _, ?_⟩
      have : sizeLine = 16777216 := sizeLine_eq
      omega

/-! ### _law_take -/
--@level 2
/-- a draw: some t from 0, below many where many is 2 or more, 0 otherwise -/
def sp_law_take : Sp := fun vs H Q _ => ∃ (p c : Addr) (m : Int), vs = [.ref p, .int m] ∧ Sto H p c ∧ m.natAbs < 2 ^ 8000 ∧
  ∀ (t : Int) (H' : Hp), 0 ≤ t → (m ≤ 1 → t = 0) → (1 < m → t < m) → SB p H H' → Sto H' p c → Q (.int t) H'
theorem ok_law_take_old (T : Txt K mg a d) : FnOk P w K mg base CX0 2 a.law_take d.law_take ["store", "many"] sp_law_take := by
  refine T.F_law_take.ok sc_law_take (fun vs H Q E h => ?_) (fun cdv A outer s H vs Q E hr h => ⟨_, (pss_cons (ps_if (pt_cmpR op_le (pv 1) pe_int (nomark _)) (pss_one (ps_ret pe_int)) pss_nil)
      (pss_cons (ps_if (pt_cmpR op_gt (pe_ix (k_ix K) (pv 0) pe_int (fun _ _ => rfl)) pe_int (nomark _)) (pss_cons (ps_set (i := 7) sc_law_take.nd rfl (by first | exact Or.inl rfl | exact Or.inr rfl) (pe_op op_mod' (pe_callTy call_int1' (by rfl) T.m_int bt_int (pa_cons (pe_ix (k_ix K) (pv 0) pe_int (fun _ _ => rfl)) pa_nil)) (pv 1)))
      (pss_cons (ps_asg (pe_op op_div' (pe_ix (k_ix K) (pv 0) pe_int (fun _ _ => rfl)) (pv 1)) (pg_sub (pv 0) pe_int set_list))
      (pss_one (ps_ret (pv 7))))) pss_nil)
      (pss_cons (ps_asg (pe_op (k_add K) (pe_ix (k_ix K) (pv 0) pe_int (fun _ _ => rfl)) pe_int) (pg_sub (pv 0) pe_int set_list))
      (pss_cons (ps_set (i := 2) sc_law_take.nd rfl (by first | exact Or.inl rfl | exact Or.inr rfl) pe_int)
      (pss_cons (ps_set (i := 3) sc_law_take.nd rfl (by first | exact Or.inl rfl | exact Or.inr rfl) (pe_op op_mulG pe_int (pe_ix (k_ix K) (pv 0) pe_int (fun _ _ => rfl))))
      (pss_cons (ps_if (pt_cmpR op_lt (pe_ix (k_ix K) (pv 0) pe_int (fun _ _ => rfl)) (pe_callB (k_len K) (by rfl) T.m_len bt_len (pa_cons (pe_ix (k_ix K) (pv 0) pe_int (fun _ _ => rfl)) pa_nil)) (nomark _)) (pss_cons (ps_set (i := 2) sc_law_take.nd rfl (by first | exact Or.inl rfl | exact Or.inr rfl) (pe_ix (k_ix K) (pe_ix (k_ix K) (pv 0) pe_int (fun _ _ => rfl)) (pe_ix (k_ix K) (pv 0) pe_int (fun _ _ => rfl)) (fun _ _ => rfl)))
      (pss_cons (ps_asg (pe_op (k_add K) (pe_ix (k_ix K) (pv 0) pe_int (fun _ _ => rfl)) pe_int) (pg_sub (pv 0) pe_int set_list))
      (pss_one (ps_set (i := 3) sc_law_take.nd rfl (by first | exact Or.inl rfl | exact Or.inr rfl) (pe_op (k_add K) (pv 3) pe_int))))) pss_nil)
      (pss_cons (ps_asg (pe_call (ok_law_mix (P := P) T) (hr.mono (by omega)) rfl T.g_law_mix T.F_law_mix.kp T.b_law_mix .nil pass0 (pa_cons (pe_op (k_add K) (pe_ix (k_ix K) (pv 0) pe_int (fun _ _ => rfl)) (pe_op op_mod' (pe_callTy call_int1' (by rfl) T.m_int bt_int (pa_cons (pv 2) pa_nil)) pe_int)) (pa_cons (pv 3) pa_nil))) (pg_sub (pv 0) pe_int set_list))
      (pss_cons (ps_if (pt_cmpR op_ge (pv 2) (pe_op op_pow' pe_int pe_int) (nomark _)) (pss_cons (ps_asg (pe_op op_div' (pv 2) (pv 1)) (pg_sub (pv 0) pe_int set_list))
      (pss_one (ps_ret (pe_op op_mod' (pe_callTy call_int1' (by rfl) T.m_int bt_int (pa_cons (pv 2) pa_nil)) (pv 1))))) pss_nil)
      (pss_cons (ps_set (i := 4) sc_law_take.nd rfl (by first | exact Or.inl rfl | exact Or.inr rfl) (pe_call (ok_law_mix (P := P) T) (hr.mono (by omega)) rfl T.g_law_mix T.F_law_mix.kp T.b_law_mix .nil pass0 (pa_cons (pe_ix (k_ix K) (pv 0) pe_int (fun _ _ => rfl)) (pa_cons pe_int pa_nil))))
      (pss_cons (ps_set (i := 5) sc_law_take.nd rfl (by first | exact Or.inl rfl | exact Or.inr rfl) pe_int)
      (pss_cons (ps_for PassesOwn.never rfl (pi_range1 rfl T.m_range (pa_cons pe_int pa_nil)) (pg_name (i := 6) sc_law_take.nd rfl (by first | exact Or.inl rfl | exact Or.inr rfl)) (pss_cons (ps_if (pt_cmpR op_ge (pv 5) (pe_op op_mulG (pv 1) pe_int) (nomark _)) (pss_one ps_break) pss_nil)
      (pss_cons (ps_set (i := 4) sc_law_take.nd rfl (by first | exact Or.inl rfl | exact Or.inr rfl) (pe_op (k_add K) (pe_op op_mulG (pv 4) pe_int) (pe_call (ok_law_mix (P := P) T) (hr.mono (by omega)) rfl T.g_law_mix T.F_law_mix.kp T.b_law_mix .nil pass0 (pa_cons (pe_ix (k_ix K) (pv 0) pe_int (fun _ _ => rfl)) (pa_cons (pe_op (k_add K) (pv 6) pe_int) pa_nil)))))
      (pss_one (ps_set (i := 5) sc_law_take.nd rfl (by first | exact Or.inl rfl | exact Or.inr rfl) (pe_op op_mulG (pv 5) pe_int))))))
      (pss_one (ps_ret (pe_op op_mod' (pe_callTy call_int1' (by rfl) T.m_int bt_int (pa_cons (pv 4) pa_nil)) (pv 1))))))))))))))), ?_⟩)
  · obtain ⟨p, c, m, rfl, _⟩ := h
    rfl
  · obtain ⟨p, c, m, rfl, S, hm, k⟩ := h
    obtain ⟨cells, at', bank, mx, cnt, hp, hc, ncp, hat, hsz⟩ := id S
    have hW : ¬ m ≤ 1 → ∀ i, CDivW i m := fun h i => wide_div (b := 8000) (by omega) hm (by decide) (by decide)
    have st : ∀ (at2 : Nat) (b2 x2 n2 : Int) (H2 : Hp), at2 ≤ cells.length → SB p H H2 → H2 p = some (.lst [.ref c, .int at2, .int b2, .int x2, .int n2]) → Sto H2 p c := fun at2 b2 x2 n2 H2 h sb e =>
      ⟨cells, at2, b2, x2, n2, e, sb _ _ ncp hc, ncp, h, hsz⟩
    row_hasAny sx
    refine if_d (fun h1 => ?_) (fun h1 => ?_)
    · row_hasAny sx
      exact k 0 H (by omega) (fun _ => rfl) (by omega) SB.refl S
    · row_hasAny sx
      refine if_d (fun h2 => ?_) (fun h2 => ?_)
      · row_hasAny sx
        refine r_div (hW h1 _) ?_
        row_hasAny sx
        exact k _ _ (Int.emod_nonneg _ (by omega)) (by omega) (fun _ => Int.emod_lt_of_pos _ (by omega)) SB.refl.upd (st _ _ _ _ _ hat SB.refl.upd upd_same)
      · -- a cell is taken or 0; either way what follows is the same
        row_hasAny sx
        rw [List.length_map]
        refine if_d (fun h3 => ?_) (fun h3 => ?_)
        · have hl : at' < cells.length := by omega
          have hcell : atI (cells.map V.int) (at' : Int) = some (.int cells[at']) := atI_nat (by simp [hl])
          row_hasAny sx
          refine r_ixL' ((upd_ne ncp).trans hc) hcell ?_
          row_hasAny sx
          refine ⟨_, _, rfl, fun r r0 r1 => ?_⟩
          row_hasAny sx
          refine if_d (fun h4 => ?_) (fun h4 => ?_)
          · row_hasAny sx
            refine r_div (hW h1 _) ?_
            row_hasAny sx
            refine k _ _ (Int.emod_nonneg _ (by omega)) (by omega) (fun _ => Int.emod_lt_of_pos _ (by omega)) ?_ (st (at' + 1) _ _ _ _ hl ?_ upd_same) <;> exact SB.refl.upd.upd.upd.upd
          · row_hasAny sx
            refine ⟨_, _, rfl, fun r2 r20 r21 => ?_⟩
            row_hasAny sx
            generalize hH2 : upd (upd (upd H p _) p _) p _ = H2
            have sb2 : SB p H H2 := by rw [← hH2]; exact SB.refl.upd.upd.upd
            have hp2 : H2 p = some (.lst [.ref c, .int ((at' + 1 : Nat) : Int), .int bank, .int r, .int (cnt + 1)]) := by rw [← hH2]; exact upd_same
            refine f_range (fun i σ H' => H' = H2 ∧ ∃ v z q, σ = [some (.ref p), some (.int m), some (.int cells[at']), some (.int (2 * (cnt + 1) + 1)), some (.int v), some (.int z), q, none]) ⟨rfl, _, _, _, rfl⟩ ?_ ?_
            · rintro i σ H' hi ⟨rfl, v, z, q, rfl⟩
              row_hasAny sx
              refine if_d (fun h5 => ?_) (fun h5 => ?_)
              · row_hasAny sx
                exact k _ _ (Int.emod_nonneg _ (by omega)) (by omega) (fun _ => Int.emod_lt_of_pos _ (by omega)) sb2 (st (at' + 1) _ _ _ _ hl sb2 hp2)
              · row_hasAny sx
                refine ⟨_, _, rfl, fun r3 r30 r31 => ?_⟩
                row_hasAny sx
                exact ⟨_, _, _, rfl⟩
            · rintro σ H' ⟨rfl, v, z, q, rfl⟩
              row_hasAny sx
              exact k _ _ (Int.emod_nonneg _ (by omega)) (by omega) (fun _ => Int.emod_lt_of_pos _ (by omega)) sb2 (st (at' + 1) _ _ _ _ hl sb2 hp2)
        · row_hasAny sx
          refine ⟨_, _, rfl, fun r r0 r1 => ?_⟩
          row_hasAny sx
          refine ⟨_, _, rfl, fun r2 r20 r21 => ?_⟩
          row_hasAny sx
          generalize hH2 : upd (upd H p _) p _ = H2
          have sb2 : SB p H H2 := by rw [← hH2]; exact SB.refl.upd.upd
          have hp2 : H2 p = some (.lst [.ref c, .int (at' : Int), .int bank, .int r, .int (cnt + 1)]) := by rw [← hH2]; exact upd_same
          refine f_range (fun i σ H' => H' = H2 ∧ ∃ v z q, σ = [some (.ref p), some (.int m), some (.int 0), some (.int (2 * (cnt + 1))), some (.int v), some (.int z), q, none]) ⟨rfl, _, _, _, rfl⟩ ?_ ?_
          · rintro i σ H' hi ⟨rfl, v, z, q, rfl⟩
            row_hasAny sx
            refine if_d (fun h5 => ?_) (fun h5 => ?_)
            · row_hasAny sx
              exact k _ _ (Int.emod_nonneg _ (by omega)) (by omega) (fun _ => Int.emod_lt_of_pos _ (by omega)) sb2 (st at' _ _ _ _ hat sb2 hp2)
            · row_hasAny sx
              refine ⟨_, _, rfl, fun r3 r30 r31 => ?_⟩
              row_hasAny sx
              exact ⟨_, _, _, rfl⟩
          · rintro σ H' ⟨rfl, v, z, q, rfl⟩
            row_hasAny sx
            exact k _ _ (Int.emod_nonneg _ (by omega)) (by omega) (fun _ => Int.emod_lt_of_pos _ (by omega)) sb2 (st at' _ _ _ _ hat sb2 hp2)
def f_law_take : List M → Option Br
  | [.sto, .sh (.int m)] => some ⟨m.natAbs < 2 ^ 8000, fun r => ∃ t, r = .sh (.int t) ∧ 0 ≤ t ∧ (m ≤ 1 → t = 0) ∧ (1 < m → t < m), fun _ _ => False⟩
  | _ => none
theorem ok_law_take (T : Txt K mg a d) : FnOk P w K mg base CX0 2 a.law_take d.law_take ["store", "many"] (spC (ctF f_law_take)) := (ok_law_take_old T).imp fun vs H Q E h => by
  obtain ⟨B, ms, hl, r, ⟨b, hf, hp⟩, kq, kx⟩ := h
  clear kx
  unfold f_law_take at hf
  split at hf
  · rename_i m
    cases hf
    match vs, hl, r with
    | [v, w], _, r =>
      obtain ⟨p, c, e1, e2, S⟩ := r.stoAt
      cases e1
      obtain rfl := r.tail.int
      refine ⟨p, c, m, rfl, S, hp, fun t H' h0 h1 h2 sb S' => kq _ (.sh (.int t)) H' ?_ ⟨_, rfl, t, rfl, h0, h1, h2⟩⟩
      exact ((r.tail.tail).sb e2 sb S').push (e := .int t) rfl
  · cases hf
theorem u_take {m : Int} {R : M → Prop} (h : m.natAbs < 2 ^ 8000) (k : ∀ t : Int, 0 ≤ t → (t < m ∨ t = 0) → R (.sh (.int t))) : ∃ b, f_law_take [.sto, .sh (.int m)] = some b ∧ b.pre ∧ (∀ cls xd, ¬ b.xp cls xd) ∧ ∀ r, b.post r → R r :=
  cbN rfl h (by rintro r ⟨t, rfl, h0, h1, h2⟩; exact k t h0 (by omega))
local macro_rules | `(tactic| row_hasAny pu1) => `(tactic| ((with_reducible refine' u_take ?h ?_); (case h => first | exact small8 (by omega) | decide +kernel); intros))

/-! ### _law_between -/
def f_law_between : List M → Option Br
  | [.sto, .sh (.int lo), .sh (.int hi)] => some ⟨lo ≤ hi ∧ (hi - lo).natAbs < 2 ^ 60, fun r => ∃ t, r = .sh (.int t) ∧ lo ≤ t ∧ t ≤ hi, fun _ _ => False⟩
  | _ => none
theorem ok_law_between (T : Txt K mg a d) : FnOk P w K mg base CX0 3 a.law_between d.law_between ["store", "low", "high"] (spC (ctF f_law_between)) := by
  refine T.F_law_between.ok sc_law_between (fun vs H Q E h => spF_len (fun ms b hf => by unfold f_law_between at hf; split at hf <;> first | rfl | cases hf) h) (fun cdv A outer s H vs Q E hr h => ⟨_, (pss_one (ps_ret (pe_op (k_add K) (pv 1) (pe_call (ok_law_take (P := P) T) (hr.mono (by omega)) rfl T.g_law_take T.F_law_take.kp T.b_law_take .nil pass0 (pa_cons (pv 0) (pa_cons (pe_op (k_add K) (pe_op op_sub (pv 2) (pv 1)) pe_int) pa_nil)))))), p_bodyF h fun ms b hf hp => ?_⟩)
  unfold f_law_between at hf
  split at hf
  rotate_right
  · cases hf
  · rename_i lo hi
    cases hf
    obtain ⟨h1, h2⟩ := (show lo ≤ hi ∧ (hi - lo).natAbs < 2 ^ 60 from hp)
    row_hasAny px
    refine cbN rfl (small8 (by omega)) ?_
    rintro m ⟨t, rfl, t0, t2, t1⟩
    row_hasAny px
    exact ⟨by omega, by omega⟩

/-! ### _law_edge -/
def f_law_edge : List M → Option Br
  | [.sto, .sh (.int lo), .sh (.int hi)] => some ⟨(hi - lo).natAbs < 2 ^ 7000, fun r => ∃ t, r = .sh (.int t) ∧ lo ≤ t ∧ (lo ≤ hi → t ≤ hi) ∧ (hi ≤ lo → t = lo), fun _ _ => False⟩
  | _ => none
theorem ok_law_edge (T : Txt K mg a d) : FnOk P w K mg base CX0 3 a.law_edge d.law_edge ["store", "low", "high"] (spC (ctF f_law_edge)) := by
  refine T.F_law_edge.ok sc_law_edge (fun vs H Q E h => spF_len (fun ms b hf => by unfold f_law_edge at hf; split at hf <;> first | rfl | cases hf) h) (fun cdv A outer s H vs Q E hr h => ⟨_, (pss_cons (ps_if (pt_cmpR op_le (pv 2) (pv 1) (nomark _)) (pss_one (ps_ret (pv 1))) pss_nil)
      (pss_cons (ps_set (i := 3) sc_law_edge.nd rfl (by first | exact Or.inl rfl | exact Or.inr rfl) (pe_call (ok_law_take (P := P) T) (hr.mono (by omega)) rfl T.g_law_take T.F_law_take.kp T.b_law_take .nil pass0 (pa_cons (pv 0) (pa_cons pe_int pa_nil))))
      (pss_cons (ps_if (pt_cmpR (k_eq K hr.units) (pv 3) pe_int (nomark _)) (pss_one (ps_ret (pv 1))) pss_nil)
      (pss_cons (ps_if (pt_cmpR (k_eq K hr.units) (pv 3) pe_int (nomark _)) (pss_one (ps_ret (pv 2))) pss_nil)
      (pss_one (ps_ret (pe_op (k_add K) (pv 1) (pe_call (ok_law_take (P := P) T) (hr.mono (by omega)) rfl T.g_law_take T.F_law_take.kp T.b_law_take .nil pass0 (pa_cons (pv 0) (pa_cons (pe_op (k_add K) (pe_op op_sub (pv 2) (pv 1)) pe_int) pa_nil)))))))))), p_bodyF h fun ms b hf hp => ?_⟩)
  unfold f_law_edge at hf
  split at hf
  rotate_right
  · cases hf
  · rename_i lo hi
    cases hf
    have hp : (hi - lo).natAbs < 2 ^ 7000 := hp
    row_hasAny px
    refine if_d (fun h1 => ?_) (fun h1 => ?_)
    · row_hasAny px
      exact ⟨by omega, by omega, by omega⟩
    · row_hasAny px
      refine cbN rfl (by decide) ?_
      rintro m ⟨t, rfl, t0, _, t1⟩
      row_hasAny px
      refine if_d (fun h2 => ?_) (fun h2 => ?_)
      · row_hasAny px
        exact ⟨by omega, by omega, by omega⟩
      · row_hasAny px
        refine if_d (fun h3 => ?_) (fun h3 => ?_)
        · row_hasAny px
          exact ⟨by omega, by omega, by omega⟩
        · row_hasAny px
          refine cbN rfl ?_ ?_
          · have h : (2 : Nat) ^ 7000 * 2 ≤ 2 ^ 8000 := by decide
            show (hi - lo + 1).natAbs < 2 ^ 8000
            omega
          rintro m ⟨u, rfl, u0, u1, u2⟩
          row_hasAny px
          exact ⟨by omega, by omega, by omega⟩

/-! ### _law_pick -/
def f_law_pick : List M → Option Br
  | [.sto, .sh (.lst es)] => some ⟨0 < es.length ∧ es.length < 100000, fun r => ∃ e, r = .sh e ∧ e ∈ es, fun _ _ => False⟩
  | _ => none
theorem ok_law_pick (T : Txt K mg a d) : FnOk P w K mg base CX0 3 a.law_pick d.law_pick ["store", "row"] (spC (ctF f_law_pick)) := by
  refine T.F_law_pick.ok sc_law_pick (fun vs H Q E h => spF_len (fun ms b hf => by unfold f_law_pick at hf; split at hf <;> first | rfl | cases hf) h) (fun cdv A outer s H vs Q E hr h => ⟨_, (pss_one (ps_ret (pe_ix (k_ix K) (pv 1) (pe_call (ok_law_take (P := P) T) (hr.mono (by omega)) rfl T.g_law_take T.F_law_take.kp T.b_law_take .nil pass0 (pa_cons (pv 0) (pa_cons (pe_callB (k_len K) (by rfl) T.m_len bt_len (pa_cons (pv 1) pa_nil)) pa_nil))) (fun _ _ => rfl)))), p_bodyF h fun ms b hf hp => ?_⟩)
  unfold f_law_pick at hf
  split at hf
  rotate_right
  · cases hf
  · rename_i es
    cases hf
    obtain ⟨h1, h2⟩ := (show 0 < es.length ∧ es.length < 100000 from hp)
    row_hasAny px
    refine cbN rfl (small8 (by omega)) ?_
    rintro m ⟨t, rfl, t0, t2, t1⟩
    obtain ⟨e, h3, h4⟩ := at_in (es := es) t0 (by omega)
    row_hasAny px
    refine v_ixL h3 ?_
    exact ⟨e, rfl, h4⟩
theorem u_pick {es : List Pl.E} {R : M → Prop} (h : 0 < es.length ∧ es.length < 100000) (k : ∀ e, e ∈ es → R (.sh e)) : ∃ b, f_law_pick [.sto, .sh (.lst es)] = some b ∧ b.pre ∧ (∀ cls xd, ¬ b.xp cls xd) ∧ ∀ r, b.post r → R r := cbN rfl h (by rintro r ⟨e, rfl, h⟩; exact k e h)
local macro_rules | `(tactic| row_hasAny pu1) => `(tactic| ((with_reducible refine' u_pick ?h ?_); (case h => first | decide | (simp only [List.length_cons, List.length_nil, List.length_map]; omega) | omega); intros))

/-! ### _law_shuffled -/
theorem perm_pop {α : Type} : ∀ {l : List α} {i : Nat} {x : α}, l[i]? = some x → (x :: l.eraseIdx i).Perm l
  | [], _, _, h => by simp at h
  | a :: l, 0, x, h => by
    cases Option.some.inj h
    exact List.Perm.refl _
  | a :: l, i + 1, x, h => by
    have ih := perm_pop (l := l) (i := i) (x := x) (by simpa using h)
    exact (List.Perm.swap a x _).trans (ih.cons a)
def f_law_shuffled : List M → Option Br
  | [.sto, .sh (.lst es)] => some ⟨es.length < 10000, fun r => ∃ fs, r = .ow fs ∧ fs.Perm es, fun _ _ => False⟩
  | _ => none
theorem ok_law_shuffled (T : Txt K mg a d) : FnOk P w K mg base CX0 3 a.law_shuffled d.law_shuffled ["store", "row"] (spC (ctF f_law_shuffled)) := by
  refine T.F_law_shuffled.ok sc_law_shuffled (fun vs H Q E h => spF_len (fun ms b hf => by unfold f_law_shuffled at hf; split at hf <;> first | rfl | cases hf) h) (fun cdv A outer s H vs Q E hr h => ⟨_, (pss_cons (ps_set (i := 2) sc_law_shuffled.nd rfl (by first | exact Or.inl rfl | exact Or.inr rfl) (pe_callTy (k_list K) (by rfl) T.m_list bt_list (pa_cons (pv 1) pa_nil)))
      (pss_cons (ps_set (i := 3) sc_law_shuffled.nd rfl (by first | exact Or.inl rfl | exact Or.inr rfl) (pe_lst pa_nil))
      (pss_cons (ps_for PassesOwn.never rfl (pi_range1 rfl T.m_range (pa_cons (pe_callB (k_len K) (by rfl) T.m_len bt_len (pa_cons (pv 1) pa_nil)) pa_nil)) (pg_name (i := 4) sc_law_shuffled.nd rfl (by first | exact Or.inl rfl | exact Or.inr rfl)) (pss_one (ps_expr (pe_bm PySem.F.plainAttrs_list PySem.F.slot_list_append PySem.F.type_list_append mt_append (pv 3) (pa_cons (pe_bm PySem.F.plainAttrs_list PySem.F.slot_list_pop PySem.F.type_list_pop mt_popAt (pv 2) (pa_cons (pe_call (ok_law_take (P := P) T) (hr.mono (by omega)) rfl T.g_law_take T.F_law_take.kp T.b_law_take .nil pass0 (pa_cons (pv 0) (pa_cons (pe_callB (k_len K) (by rfl) T.m_len bt_len (pa_cons (pv 2) pa_nil)) pa_nil))) pa_nil)) pa_nil)))))
      (pss_one (ps_ret (pv 3)))))), p_bodyF h fun ms b hf hp => ?_⟩)
  unfold f_law_shuffled at hf
  split at hf
  rotate_right
  · cases hf
  · rename_i es
    cases hf
    have hp : es.length < 10000 := hp
    have zl : sizeLine = 16777216 := sizeLine_eq
    row_hasAny px
    refine q_for (fun _ i ρ => ∃ (rest out : List Pl.E) (z : M), ρ = [.sto, .sh (.lst es), .ow rest, .ow out, z] ∧ (out ++ rest).Perm es ∧ out.length = i) ?_
    row_hasAny px
    refine ⟨⟨es, [], .no, rfl, List.Perm.refl _, rfl⟩, ?_, ?_⟩
    · rintro i e ρ hi ⟨rest, out, z, rfl, hperm, hlen⟩
      row_hasAny px
      have hl := hperm.length_eq
      rw [List.length_append] at hl
      obtain ⟨hi2, _⟩ := rng_at hi
      refine cbN rfl (small8 (by omega)) ?_
      rintro m ⟨t, rfl, t0, t2, t1⟩
      obtain ⟨n, rfl⟩ := Int.eq_ofNat_of_zero_le t0
      have hn : n < rest.length := by omega
      have hx := List.getElem?_eq_getElem hn
      exact ⟨n, _, rest, rfl, rfl, hx, _, out, rfl, rfl, by omega, _, _, _, rfl, (by rw [List.append_assoc]; exact ((perm_pop hx).append_left _).trans hperm), by rw [List.length_append, hlen]; rfl⟩
    · rintro ρ ⟨rest, out, z, rfl, hperm, hlen⟩
      row_hasAny px
      have hl := hperm.length_eq
      rw [List.length_append, hlen, rng_len] at hl
      have e : rest = [] := List.length_eq_zero_iff.mp (by omega)
      subst e
      exact ⟨out, rfl, by simpa using hperm⟩
theorem u_shuffled {es : List Pl.E} {R : M → Prop} (h : es.length < 10000) (k : ∀ fs, fs.Perm es → R (.ow fs)) : ∃ b, f_law_shuffled [.sto, .sh (.lst es)] = some b ∧ b.pre ∧ (∀ cls xd, ¬ b.xp cls xd) ∧ ∀ r, b.post r → R r := cbN rfl h (by rintro r ⟨fs, rfl, h⟩; exact k fs h)

/-! ### _law_form -/
def f_law_form : List M → Option Br
  | [.sto, .sh (.lst es)] => some ⟨True, fun r => r = .ow es ∨ r = .sh (.tup es), fun _ _ => False⟩
  | [.sto, .sh (.tup es)] => some ⟨True, fun r => r = .ow es ∨ r = .sh (.tup es), fun _ _ => False⟩
  | _ => none
theorem ok_law_form (T : Txt K mg a d) : FnOk P w K mg base CX0 3 a.law_form d.law_form ["store", "row"] (spC (ctF f_law_form)) := by
  refine T.F_law_form.ok sc_law_form (fun vs H Q E h => spF_len (fun ms b hf => by unfold f_law_form at hf; split at hf <;> first | rfl | cases hf) h) (fun cdv A outer s H vs Q E hr h => ⟨_, (pss_cons (ps_if (pt_cmpR (k_eq K hr.units) (pe_call (ok_law_take (P := P) T) (hr.mono (by omega)) rfl T.g_law_take T.F_law_take.kp T.b_law_take .nil pass0 (pa_cons (pv 0) (pa_cons pe_int pa_nil))) pe_int (nomark _)) (pss_one (ps_ret (pe_callTy (k_list K) (by rfl) T.m_list bt_list (pa_cons (pv 1) pa_nil)))) pss_nil)
      (pss_one (ps_ret (pe_callTy (k_tup K) (by rfl) T.m_tuple bt_tuple (pa_cons (pv 1) pa_nil))))), p_bodyF h fun ms b hf hp => ?_⟩)
  unfold f_law_form at hf
  split at hf
  rotate_right
  · cases hf
  all_goals
    rename_i es
    cases hf
    row_hasAny px
    refine cbN rfl (by decide) ?_
    rintro m ⟨t, rfl, t0, _, t1⟩
    row_hasAny px
    refine if_d (fun h1 => ?_) (fun h1 => ?_)
    · row_hasAny px
      exact .inl rfl
    · row_hasAny px
      exact .inr rfl
theorem u_form {es : List Pl.E} {e0 : Pl.E} {R : M → Prop} (h0 : sq e0 = some es) (k : ∀ m e, m.frz = .sh e → sq e = some es → m ≠ .no → R m) : ∃ b, f_law_form [.sto, .sh e0] = some b ∧ b.pre ∧ (∀ cls xd, ¬ b.xp cls xd) ∧ ∀ r, b.post r → R r := by
  rcases sq_cases h0 with rfl | rfl
  all_goals
    refine cbN rfl trivial ?_
    rintro r (rfl | rfl)
    · exact k _ (.lst es) rfl rfl nofun
    · exact k _ (.tup es) rfl rfl nofun
local macro_rules | `(tactic| row_hasAny pu1) => `(tactic| ((with_reducible refine' u_form ?h ?_); (case h => first | exact rfl | assumption); intros))

/-! ### _law_odd -/
def f_law_odd : List M → Option Br
  | [.sto] => some ⟨True, fun r => ∃ e, r = .sh e ∧ e ∈ oddE, fun _ _ => False⟩
  | _ => none
theorem ok_law_odd (T : Txt K mg a d) : FnOk P w K mg base CX0 3 a.law_odd d.law_odd ["store"] (spC (ctF f_law_odd)) := by
  refine T.F_law_odd.ok sc_law_odd (fun vs H Q E h => spF_len (fun ms b hf => by unfold f_law_odd at hf; split at hf <;> first | rfl | cases hf) h) (fun cdv A outer s H vs Q E hr h => ⟨_, (pss_cons (ps_set (i := 1) sc_law_odd.nd rfl (by first | exact Or.inl rfl | exact Or.inr rfl) (pe_lst (pa_cons pe_non (pa_cons pe_bl (pa_cons pe_bl (pa_cons pe_str (pa_cons pe_str (pa_cons pe_str (pa_cons (pe_lst pa_nil) (pa_cons (pe_tup pa_nil) (pa_cons (pe_lst (pa_cons pe_int pa_nil)) (pa_cons (pe_tup (pa_cons pe_int pa_nil)) (pa_cons pe_dnewK (pa_cons (pe_disp (pps_cons pe_str pe_int pps_nil) (by rfl) (by rfl) (fun z => by cases z) (by decide)) (pa_cons (pe_lst (pa_cons pe_non pa_nil)) (pa_cons pe_str pa_nil))))))))))))))))
      (pss_one (ps_ret (pe_ix (k_ix K) (pv 1) (pe_call (ok_law_take (P := P) T) (hr.mono (by omega)) rfl T.g_law_take T.F_law_take.kp T.b_law_take .nil pass0 (pa_cons (pv 0) (pa_cons (pe_callB (k_len K) (by rfl) T.m_len bt_len (pa_cons (pv 1) pa_nil)) pa_nil))) (fun _ _ => rfl))))), p_bodyF h fun ms b hf hp => ?_⟩)
  unfold f_law_odd at hf
  split at hf
  rotate_right
  · cases hf
  · cases hf
    row_hasAny px
    refine cbN rfl (by decide) ?_
    rintro m ⟨t, rfl, t0, _, t1⟩
    obtain ⟨e, h1, h2⟩ := at_in (es := oddE) t0 (t1 (by decide))
    exact ⟨_, _, _, rfl, rfl, h1, _, rfl, h2⟩
theorem u_odd {R : M → Prop} (k : ∀ e, e ∈ oddE → R (.sh e)) : ∃ b, f_law_odd [.sto] = some b ∧ b.pre ∧ (∀ cls xd, ¬ b.xp cls xd) ∧ ∀ r, b.post r → R r := cbN rfl trivial (by rintro r ⟨e, rfl, h⟩; exact k e h)
local macro_rules | `(tactic| row_hasAny pu1) => `(tactic| ((with_reducible refine' u_odd ?_); intros))

/-! ### _law_far -/
theorem pow10_lt : ∀ n : Nat, n ≤ 390 → ((10 : Int) ^ n).natAbs < 2 ^ 8000 := fun n h => by
  have h1 : ((10 : Int) ^ n).natAbs = 10 ^ n := by rw [Int.natAbs_pow]; rfl
  rw [h1]
  exact Nat.lt_of_le_of_lt (Nat.pow_le_pow_right (by decide) h) (by decide +kernel)
def f_law_far : List M → Option Br
  | [.sto] => some ⟨True, fun r => ∃ t, r = .sh (.int t) ∧ 0 ≤ t ∧ t < 10 ^ 390, fun _ _ => False⟩
  | _ => none
theorem ok_law_far (T : Txt K mg a d) : FnOk P w K mg base CX0 4 a.law_far d.law_far ["store"] (spC (ctF f_law_far)) := by
  refine T.F_law_far.ok sc_law_far (fun vs H Q E h => spF_len (fun ms b hf => by unfold f_law_far at hf; split at hf <;> first | rfl | cases hf) h) (fun cdv A outer s H vs Q E hr h => ⟨_, (pss_cons (ps_set (i := 1) sc_law_far.nd rfl (by first | exact Or.inl rfl | exact Or.inr rfl) pe_int)
      (pss_cons (ps_for PassesOwn.never rfl (pi_range1 rfl T.m_range (pa_cons (pe_call (ok_law_edge (P := P) T) (hr.mono (by omega)) rfl T.g_law_edge T.F_law_edge.kp T.b_law_edge .nil pass0 (pa_cons (pv 0) (pa_cons pe_int (pa_cons pe_int pa_nil)))) pa_nil)) (pg_name (i := 2) sc_law_far.nd rfl (by first | exact Or.inl rfl | exact Or.inr rfl)) (pss_one (ps_set (i := 1) sc_law_far.nd rfl (by first | exact Or.inl rfl | exact Or.inr rfl) (pe_op op_mulG (pv 1) pe_int))))
      (pss_one (ps_ret (pe_call (ok_law_take (P := P) T) (hr.mono (by omega)) rfl T.g_law_take T.F_law_take.kp T.b_law_take .nil pass0 (pa_cons (pv 0) (pa_cons (pv 1) pa_nil))))))), p_bodyF h fun ms b hf hp => ?_⟩)
  unfold f_law_far at hf
  split at hf
  rotate_right
  · cases hf
  · cases hf
    row_hasAny px
    refine q_for (fun L i ρ => L.length ≤ 389 ∧ ∃ z, ρ = [.sto, .sh (.int (10 ^ (i + 1))), z]) ?_
    row_hasAny px
    refine cbN rfl (by decide) ?_
    rintro m ⟨t, rfl, t0, t2, _⟩
    have t3 := t2 (by decide)
    row_hasAny px
    refine ⟨⟨by rw [rng_len]; omega, _, rfl⟩, ?_, ?_⟩
    · rintro i q ρ hq ⟨hL, z, rfl⟩
      row_hasAny px
      exact ⟨hL, _, by rw [Int.pow_succ (10 : Int) (i + 1)]; rfl⟩
    · rintro ρ ⟨_, z, rfl⟩
      rw [rng_len]
      row_hasAny px
      refine cbN rfl (pow10_lt _ (by omega)) ?_
      rintro m ⟨u, rfl, u0, _, u1⟩
      have e1 : (10 : Int) ^ (t.toNat + 1) ≤ 10 ^ 390 := by
        have := Nat.pow_le_pow_right (n := 10) (by decide) (show t.toNat + 1 ≤ 390 by omega)
        exact_mod_cast this
      have e2 : (1 : Int) < 10 ^ (t.toNat + 1) := by
        have := Nat.pow_le_pow_right (n := 10) (by decide) (show 1 ≤ t.toNat + 1 by omega)
        have h2 : (10 : Int) ^ 1 ≤ 10 ^ (t.toNat + 1) := by exact_mod_cast this
        exact Int.lt_of_lt_of_le (by decide) h2
      exact ⟨u, rfl, u0, Int.lt_of_lt_of_le (u1 e2) e1⟩

/-! ### _law_any -/
def okAny (n : Nat) (e : Pl.E) : Prop := Pl.plain e = true ∧ dep e ≤ n
theorem okAny.int {n : Nat} (i : Int) : okAny n (.int i) := ⟨rfl, Nat.zero_le _⟩
theorem okAny.lst1 {n : Nat} {e : Pl.E} (h : okAny n e) : okAny (n + 1) (.lst [e]) := ⟨by show (Pl.plain e && true) = true; rw [h.1]; rfl, by show 1 + max (dep e) 0 ≤ n + 1; have := h.2; omega⟩
theorem okAny.tup1 {n : Nat} {e : Pl.E} (h : okAny n e) : okAny (n + 1) (.tup [e]) := ⟨by show (Pl.plain e && true) = true; rw [h.1]; rfl, by show 1 + max (dep e) 0 ≤ n + 1; have := h.2; omega⟩
theorem okAny.lst2 {n : Nat} {e f : Pl.E} (h : okAny n e) (g : okAny n f) : okAny (n + 1) (.lst [e, f]) := ⟨by show (Pl.plain e && (Pl.plain f && true)) = true; rw [h.1, g.1]; rfl, by show 1 + max (dep e) (max (dep f) 0) ≤ n + 1; have := h.2; have := g.2; omega⟩
theorem okAny.tup2 {n : Nat} {e f : Pl.E} (h : okAny n e) (g : okAny n f) : okAny (n + 1) (.tup [e, f]) := ⟨by show (Pl.plain e && (Pl.plain f && true)) = true; rw [h.1, g.1]; rfl, by show 1 + max (dep e) (max (dep f) 0) ≤ n + 1; have := h.2; have := g.2; omega⟩
theorem okAny.dic1 {n : Nat} {e : Pl.E} {k : L2.Key} (h : okAny n e) : okAny (n + 2) (.dic [(k, e)]) := ⟨by show (Pl.plain e && true) = true; rw [h.1]; rfl, by show 2 + max (dep e) 0 ≤ n + 2; have := h.2; omega⟩
theorem okAny.up {n m : Nat} {e : Pl.E} (h : okAny n e) (hm : n ≤ m) : okAny m e := ⟨h.1, Nat.le_trans h.2 hm⟩
def f_law_any : List M → Option Br
  | [.sto] => some ⟨True, fun m => ∃ e, m.frz = .sh e ∧ okAny 67 e ∧ m ≠ .no, fun _ _ => False⟩
  | _ => none
theorem ok_law_any (T : Txt K mg a d) : FnOk P w K mg base CX0 5 a.law_any d.law_any ["store"] (spC (ctF f_law_any)) := by
  refine T.F_law_any.ok sc_law_any (fun vs H Q E h => spF_len (fun ms b hf => by unfold f_law_any at hf; split at hf <;> first | rfl | cases hf) h) (fun cdv A outer s H vs Q E hr h => ⟨_, (pss_cons (ps_set (i := 1) sc_law_any.nd rfl (by first | exact Or.inl rfl | exact Or.inr rfl) (pe_call (ok_law_odd (P := P) T) (hr.mono (by omega)) rfl T.g_law_odd T.F_law_odd.kp T.b_law_odd .nil pass0 (pa_cons (pv 0) pa_nil)))
      (pss_cons (ps_if (pt_cmpR (k_eq K hr.units) (pe_call (ok_law_take (P := P) T) (hr.mono (by omega)) rfl T.g_law_take T.F_law_take.kp T.b_law_take .nil pass0 (pa_cons (pv 0) (pa_cons pe_int pa_nil))) pe_int (nomark _)) (pss_one (ps_set (i := 1) sc_law_any.nd rfl (by first | exact Or.inl rfl | exact Or.inr rfl) (pe_call (ok_law_between (P := P) T) (hr.mono (by omega)) rfl T.g_law_between T.F_law_between.kp T.b_law_between .nil pass0 (pa_cons (pv 0) (pa_cons (pe_un un_neg pe_int) (pa_cons pe_int pa_nil)))))) pss_nil)
      (pss_cons (ps_set (i := 2) sc_law_any.nd rfl (by first | exact Or.inl rfl | exact Or.inr rfl) (pe_call (ok_law_take (P := P) T) (hr.mono (by omega)) rfl T.g_law_take T.F_law_take.kp T.b_law_take .nil pass0 (pa_cons (pv 0) (pa_cons pe_int pa_nil))))
      (pss_cons (ps_if (pt_cmpR (k_eq K hr.units) (pe_call (ok_law_take (P := P) T) (hr.mono (by omega)) rfl T.g_law_take T.F_law_take.kp T.b_law_take .nil pass0 (pa_cons (pv 0) (pa_cons pe_int pa_nil))) pe_int (nomark _)) (pss_one (ps_set (i := 2) sc_law_any.nd rfl (by first | exact Or.inl rfl | exact Or.inr rfl) pe_int)) pss_nil)
      (pss_cons (ps_for PassesOwn.never rfl (pi_range1 rfl T.m_range (pa_cons (pv 2) pa_nil)) (pg_name (i := 3) sc_law_any.nd rfl (by first | exact Or.inl rfl | exact Or.inr rfl)) (pss_cons (ps_set (i := 4) sc_law_any.nd rfl (by first | exact Or.inl rfl | exact Or.inr rfl) (pe_call (ok_law_take (P := P) T) (hr.mono (by omega)) rfl T.g_law_take T.F_law_take.kp T.b_law_take .nil pass0 (pa_cons (pv 0) (pa_cons pe_int pa_nil))))
      (pss_one (ps_if (pt_cmpR (k_eq K hr.units) (pv 4) pe_int (nomark _)) (pss_one (ps_set (i := 1) sc_law_any.nd rfl (by first | exact Or.inl rfl | exact Or.inr rfl) (pe_lst (pa_cons (pv 1) pa_nil)))) (pss_one (ps_if (pt_cmpR (k_eq K hr.units) (pv 4) pe_int (nomark _)) (pss_one (ps_set (i := 1) sc_law_any.nd rfl (by first | exact Or.inl rfl | exact Or.inr rfl) (pe_tup (pa_cons (pv 1) pa_nil)))) (pss_one (ps_if (pt_cmpR (k_eq K hr.units) (pv 4) pe_int (nomark _)) (pss_one (ps_set (i := 1) sc_law_any.nd rfl (by first | exact Or.inl rfl | exact Or.inr rfl) (pe_lst (pa_cons (pe_call (ok_law_odd (P := P) T) (hr.mono (by omega)) rfl T.g_law_odd T.F_law_odd.kp T.b_law_odd .nil pass0 (pa_cons (pv 0) pa_nil)) (pa_cons (pv 1) pa_nil))))) (pss_one (ps_if (pt_cmpR (k_eq K hr.units) (pv 4) pe_int (nomark _)) (pss_one (ps_set (i := 1) sc_law_any.nd rfl (by first | exact Or.inl rfl | exact Or.inr rfl) (pe_tup (pa_cons (pv 1) (pa_cons (pe_call (ok_law_between (P := P) T) (hr.mono (by omega)) rfl T.g_law_between T.F_law_between.kp T.b_law_between .nil pass0 (pa_cons (pv 0) (pa_cons (pe_un un_neg pe_int) (pa_cons pe_int pa_nil)))) pa_nil))))) (pss_one (ps_if (pt_cmpR (k_eq K hr.units) (pv 4) pe_int (nomark _)) (pss_one (ps_set (i := 1) sc_law_any.nd rfl (by first | exact Or.inl rfl | exact Or.inr rfl) (pe_disp (pps_cons pe_str (pv 1) pps_nil) (by rfl) (by rfl) (fun z => by cases z) (by decide)))) (pss_one (ps_if (pt_cmpR (k_eq K hr.units) (pv 4) pe_int (nomark _)) (pss_one (ps_set (i := 1) sc_law_any.nd rfl (by first | exact Or.inl rfl | exact Or.inr rfl) (pe_lst (pa_cons (pv 1) (pa_cons (pe_call (ok_law_far (P := P) T) (hr.mono (by omega)) rfl T.g_law_far T.F_law_far.kp T.b_law_far .nil pass0 (pa_cons (pv 0) pa_nil)) pa_nil))))) (pss_one (ps_set (i := 1) sc_law_any.nd rfl (by first | exact Or.inl rfl | exact Or.inr rfl) (pe_tup (pa_cons (pe_call (ok_law_pick (P := P) T) (hr.mono (by omega)) rfl T.g_law_pick T.F_law_pick.kp T.b_law_pick .nil pass0 (pa_cons (pv 0) (pa_cons (pe_lst (pa_cons pe_str (pa_cons pe_str (pa_cons pe_str (pa_cons pe_str (pa_cons pe_str (pa_cons pe_str pa_nil))))))) pa_nil))) (pa_cons (pv 1) pa_nil)))))))))))))))))))
      (pss_one (ps_ret (pv 1)))))))), p_bodyF h fun ms b hf hp => ?_⟩)
  unfold f_law_any at hf
  split at hf
  rotate_right
  · cases hf
  · cases hf
    have odd3 : ∀ {e : Pl.E} {n : Nat}, e ∈ oddE → okAny (n + 3) e := fun h => ⟨(odd_plain _ h).1, Nat.le_trans (odd_plain _ h).2 (Nat.le_add_left ..)⟩
    refine p_seqC (fun ρ => ∃ e, okAny 3 e ∧ ρ = [.sto, .sh e, .no, .no, .no]) ?_ ?_
    · row_hasAny pu
      rename_i e he
      exact ⟨e, odd3 (n := 0) he, rfl⟩
    rintro ρ ⟨e, he, rfl⟩
    refine p_seqC (fun ρ => ∃ e, okAny 3 e ∧ ρ = [.sto, .sh e, .no, .no, .no]) ?_ ?_
    · row_hasAny pu
      refine if_d (fun h => ?_) (fun h => ?_)
      · row_hasAny pu
        refine cbN rfl (by decide) ?_
        rintro m ⟨t, rfl, _, _⟩
        row_hasAny pu
        exact ⟨_, okAny.int _, rfl⟩
      · row_hasAny pu
        exact ⟨_, he, rfl⟩
    rintro ρ ⟨e, he, rfl⟩
    refine p_seqC (fun ρ => ∃ r : Int, 0 ≤ r ∧ r ≤ 32 ∧ ρ = [.sto, .sh e, .sh (.int r), .no, .no]) ?_ ?_
    · row_hasAny pu
      exact ⟨_, by assumption, by omega, rfl⟩
    rintro ρ ⟨r, r0, r1, rfl⟩
    refine p_seqC (fun ρ => ∃ r : Int, 0 ≤ r ∧ r ≤ 32 ∧ ρ = [.sto, .sh e, .sh (.int r), .no, .no]) ?_ ?_
    · row_hasAny pu
      refine if_d (fun h => ?_) (fun h => ?_)
      · row_hasAny pu
        exact ⟨_, by decide, by decide, rfl⟩
      · row_hasAny pu
        exact ⟨_, r0, r1, rfl⟩
    rintro ρ ⟨r, r0, r1, rfl⟩
    refine p_seqC (fun ρ => ∃ m e z3 z4, m.frz = .sh e ∧ m ≠ .no ∧ okAny 67 e ∧ ρ = [.sto, m, .sh (.int r), z3, z4]) ?_ ?_
    · refine q_for (fun L i ρ => L.length ≤ 32 ∧ ∃ m e z3 z4, m.frz = .sh e ∧ m ≠ .no ∧ okAny (2 * i + 3) e ∧ ρ = [.sto, m, .sh (.int r), z3, z4]) ?_
      row_hasAny pu
      refine ⟨⟨by rw [rng_len]; omega, .sh e, e, _, _, rfl, nofun, he, rfl⟩, ?_, ?_⟩
      · rintro i x ρ hx ⟨hL, m, e, z3, z4, hm, hm0, he, rfl⟩
        refine p_gname ?_
        refine p_frS 1 rfl hm0 ?_
        rw [hm]
        row_hasAny pu
        refine if_d (fun h => ?_) (fun h => ?_)
        · row_hasAny pu
          exact ⟨hL, .ow [e], _, _, _, rfl, nofun, (he.lst1).up (by omega), rfl⟩
        row_hasAny pu
        refine if_d (fun h => ?_) (fun h => ?_)
        · row_hasAny pu
          exact ⟨hL, .sh (.tup [e]), _, _, _, rfl, nofun, (he.tup1).up (by omega), rfl⟩
        row_hasAny pu
        refine if_d (fun h => ?_) (fun h => ?_)
        · row_hasAny pu
          rename_i o ho
          exact ⟨hL, .ow [o, e], _, _, _, rfl, nofun, ((odd3 (n := 2 * i) ho).lst2 he).up (by omega), rfl⟩
        row_hasAny pu
        refine if_d (fun h => ?_) (fun h => ?_)
        · row_hasAny pu
          refine cbN rfl (by decide) ?_
          rintro m ⟨t, rfl, _, _⟩
          row_hasAny pu
          exact ⟨hL, .sh (.tup [e, .int t]), _, _, _, rfl, nofun, (he.tup2 (okAny.int _)).up (by omega), rfl⟩
        row_hasAny pu
        refine if_d (fun h => ?_) (fun h => ?_)
        · row_hasAny pu
          refine p_disp1 mono_c mono_v ?_
          row_hasAny pu
          exact ⟨hL, .od [(.inr "a", e)], _, _, _, rfl, nofun, (he.dic1).up (by omega), rfl⟩
        row_hasAny pu
        refine if_d (fun h => ?_) (fun h => ?_)
        · row_hasAny pu
          refine cbN rfl trivial ?_
          rintro m ⟨t, rfl, _, _⟩
          row_hasAny pu
          exact ⟨hL, .ow [e, .int t], _, _, _, rfl, nofun, (he.lst2 (okAny.int _)).up (by omega), rfl⟩
        · row_hasAny pu
          rename_i o ho
          have hos : okAny (2 * i + 3) o := by
            simp only [List.mem_cons, List.not_mem_nil, or_false] at ho
            rcases ho with rfl | rfl | rfl | rfl | rfl | rfl <;> exact ⟨rfl, Nat.zero_le _⟩
          exact ⟨hL, .sh (.tup [o, e]), _, _, _, rfl, nofun, (hos.tup2 he).up (by omega), rfl⟩
      · rintro ρ ⟨hL, m, e, z3, z4, hm, hm0, he, rfl⟩
        exact ⟨m, e, z3, z4, hm, hm0, he.up (by omega), rfl⟩
    rintro ρ ⟨m, e, z3, z4, hm, hm0, he, rfl⟩
    refine q_retO (m := m) rfl hm0 ?_
    exact ⟨e, hm, he, hm0⟩

/-! ### _law_named_arrows -/
--@hint sorted(ring) => data
def pathL (N : Nat) : List (Int × Int) := (List.range (N - 1)).map fun k : Nat => ((k : Int), (k : Int) + 1)
def ringL (N : Nat) : List (Int × Int) := pathL N ++ (if 0 < N then [((N : Int) - 1, (0 : Int))] else [])
def starL (N : Nat) : List (Int × Int) := (List.range (N - 1)).map fun k : Nat => ((0 : Int), 1 + (k : Int))
def intoL (N : Nat) : List (Int × Int) := (List.range (N - 1)).map fun k : Nat => ((k : Int), (N : Int) - 1)
def fullR (N : Nat) (all : Bool) (u m : Nat) : List (Int × Int) := ((List.range m).filter fun v => decide (u < v) || (all && decide (v < u))).map fun v : Nat => ((u : Int), (v : Int))
def fullL (N : Nat) (all : Bool) (m : Nat) : List (Int × Int) := (List.range m).flatMap fun u => fullR N all u N
def namL (N : Nat) (k : Int) : List (Int × Int) := if k = 1 then pathL N else if k = 2 then sortP (ringL N) else if k = 4 then [] else if k = 5 then starL N else if k = 6 then intoL N else fullL N (decide (k = 3)) N
def f_law_named_arrows : List M → Option Br
  | [.sh (.int n), .sh (.int k)] => some ⟨0 ≤ n ∧ n ≤ 2100, fun m => m = .ow ((namL n.toNat k).map prE), fun _ _ => False⟩
  | _ => none
theorem fullR_len (N : Nat) (all : Bool) (u m : Nat) : (fullR N all u m).length ≤ m := by
  unfold fullR
  rw [List.length_map]
  exact Nat.le_trans (List.length_filter_le ..) (by rw [List.length_range]; exact Nat.le_refl _)
theorem fullL_len (N : Nat) (all : Bool) (m : Nat) : (fullL N all m).length ≤ m * N := by
  have := flat_lenB (l := List.range m) (f := fun u => fullR N all u N) (c := N) fun u _ => fullR_len N all u N
  rwa [List.length_range] at this
theorem fullL_succ (N : Nat) (all : Bool) (m : Nat) : fullL N all (m + 1) = fullL N all m ++ fullR N all m N := by
  unfold fullL
  rw [List.range_succ, List.flatMap_append]
  congr 1
  exact List.append_nil _
theorem ok_law_named_arrows (T : Txt K mg a d) : FnOk P w K mg base CX0 1 a.law_named_arrows d.law_named_arrows ["n", "kind"] (spC (ctF f_law_named_arrows)) := by
  refine T.F_law_named_arrows.ok sc_law_named_arrows (fun vs H Q E h => spF_len (fun ms b hf => by unfold f_law_named_arrows at hf; split at hf <;> first | rfl | cases hf) h) (fun cdv A outer s H vs Q E hr h => ⟨_, (pss_cons (ps_if (pt_cmpR (k_eq K hr.units) (pv 1) pe_int (nomark _)) (pss_one (ps_ret (pe_lc (own := [("k", 6)]) (g := gName 6) (tt := tYes) rfl sc_law_named_arrows.nd (pi_range1 rfl T.m_range (pa_cons (pe_op op_sub (pv 0) pe_int) pa_nil)) (blkOk_by (N := ["n", "kind", "arrows", "u", "ring", "v", "k"]) (sc := defScope s_law_named_arrows) (by decide +kernel)) (fun _ _ _ _ _ => (pg_name (i := 6) sc_law_named_arrows.nd rfl (by first | exact Or.inl rfl | exact Or.inr rfl))) (fun _ _ _ _ _ => pts_nil) (fun _ _ _ _ _ => (pe_tup (pa_cons (pv 6) (pa_cons (pe_op (k_add K) (pv 6) pe_int) pa_nil))))))) pss_nil)
      (pss_cons (ps_if (pt_cmpR (k_eq K hr.units) (pv 1) pe_int (nomark _)) (pss_cons (ps_setLc (i := 4) (own := [("k", 6)]) (g := gName 6) (tt := tYes) rfl sc_law_named_arrows.nd rfl rfl (sw_true rfl rfl rfl (by decide +kernel)) (pi_range1 rfl T.m_range (pa_cons (pe_op op_sub (pv 0) pe_int) pa_nil)) (blkOk_by (N := ["n", "kind", "arrows", "u", "ring", "v", "k"]) (sc := defScope s_law_named_arrows) (by decide +kernel)) (fun _ _ _ _ _ => (pg_name (i := 6) sc_law_named_arrows.nd rfl (by first | exact Or.inl rfl | exact Or.inr rfl))) (fun _ _ _ _ _ => pts_nil) (fun _ _ _ _ _ => (pe_tup (pa_cons (pv 6) (pa_cons (pe_op (k_add K) (pv 6) pe_int) pa_nil)))))
      (pss_cons (ps_if (pt_cmpR op_gt (pv 0) pe_int (nomark _)) (pss_one (ps_expr (pe_bm PySem.F.plainAttrs_list PySem.F.slot_list_append PySem.F.type_list_append mt_append (pv 4) (pa_cons (pe_tup (pa_cons (pe_op op_sub (pv 0) pe_int) (pa_cons pe_int pa_nil))) pa_nil)))) pss_nil)
      (pss_one (ps_ret (pe_callB (k_sortD K hr.units) (by rfl) T.m_sorted bt_sorted (pa_cons (pv 4) pa_nil)))))) pss_nil)
      (pss_cons (ps_if (pt_cmpR (k_eq K hr.units) (pv 1) pe_int (nomark _)) (pss_one (ps_ret (pe_lst pa_nil))) pss_nil)
      (pss_cons (ps_if (pt_cmpR (k_eq K hr.units) (pv 1) pe_int (nomark _)) (pss_one (ps_ret (pe_lc (own := [("k", 6)]) (g := gName 6) (tt := tYes) rfl sc_law_named_arrows.nd (pi_range2 rfl T.m_range (pa_cons pe_int (pa_cons (pv 0) pa_nil))) (blkOk_by (N := ["n", "kind", "arrows", "u", "ring", "v", "k"]) (sc := defScope s_law_named_arrows) (by decide +kernel)) (fun _ _ _ _ _ => (pg_name (i := 6) sc_law_named_arrows.nd rfl (by first | exact Or.inl rfl | exact Or.inr rfl))) (fun _ _ _ _ _ => pts_nil) (fun _ _ _ _ _ => (pe_tup (pa_cons pe_int (pa_cons (pv 6) pa_nil))))))) pss_nil)
      (pss_cons (ps_if (pt_cmpR (k_eq K hr.units) (pv 1) pe_int (nomark _)) (pss_one (ps_ret (pe_lc (own := [("k", 6)]) (g := gName 6) (tt := tYes) rfl sc_law_named_arrows.nd (pi_range1 rfl T.m_range (pa_cons (pe_op op_sub (pv 0) pe_int) pa_nil)) (blkOk_by (N := ["n", "kind", "arrows", "u", "ring", "v", "k"]) (sc := defScope s_law_named_arrows) (by decide +kernel)) (fun _ _ _ _ _ => (pg_name (i := 6) sc_law_named_arrows.nd rfl (by first | exact Or.inl rfl | exact Or.inr rfl))) (fun _ _ _ _ _ => pts_nil) (fun _ _ _ _ _ => (pe_tup (pa_cons (pv 6) (pa_cons (pe_op op_sub (pv 0) pe_int) pa_nil))))))) pss_nil)
      (pss_cons (ps_set (i := 2) sc_law_named_arrows.nd rfl (by first | exact Or.inl rfl | exact Or.inr rfl) (pe_lst pa_nil))
      (pss_cons (ps_for PassesOwn.never rfl (pi_range1 rfl T.m_range (pa_cons (pv 0) pa_nil)) (pg_name (i := 3) sc_law_named_arrows.nd rfl (by first | exact Or.inl rfl | exact Or.inr rfl)) (pss_one (ps_for PassesOwn.never rfl (pi_range1 rfl T.m_range (pa_cons (pv 0) pa_nil)) (pg_name (i := 5) sc_law_named_arrows.nd rfl (by first | exact Or.inl rfl | exact Or.inr rfl)) (pss_one (ps_if (PW.pt (pw_or (pt_cmpR op_lt (pv 3) (pv 5) (nomark _)) (pw_or1 (PW.pt (pw_and (pt_cmpR (k_eq K hr.units) (pv 1) pe_int (nomark _)) (pw_and1 (pt_cmpR op_gt (pv 3) (pv 5) (nomark _)))))))) (pss_one (ps_expr (pe_bm PySem.F.plainAttrs_list PySem.F.slot_list_append PySem.F.type_list_append mt_append (pv 2) (pa_cons (pe_tup (pa_cons (pv 3) (pa_cons (pv 5) pa_nil))) pa_nil)))) pss_nil)))))
      (pss_one (ps_ret (pv 2)))))))))), p_bodyF h fun ms b hf hp => ?_⟩)
  unfold f_law_named_arrows at hf
  split at hf
  rotate_right
  · cases hf
  · rename_i n k
    cases hf
    obtain ⟨n0, n1⟩ := (show 0 ≤ n ∧ n ≤ 2100 from hp)
    obtain ⟨N, rfl⟩ := Int.eq_ofNat_of_zero_le n0
    have zl : sizeLine = 16777216 := sizeLine_eq
    rw [Int.toNat_natCast]
    have hNN : N * N ≤ 2100 * 2100 := Nat.mul_le_mul (by omega) (by omega)
    have pl : (pathL N).length = N - 1 := by unfold pathL; rw [List.length_map, List.length_range]
    row_hasAny pu
    refine if_d (fun h => ?_) (fun h => ?_)
    · have e : namL N k = pathL N := if_pos h
      rw [e]
      row_hasAny pu
      refine p_lc (fun L j acc => L.length = N - 1 ∧ acc = ((pathL N).take j).map prE) ?_
      row_hasAny pu
      refine ⟨by rw [rng_len]; omega, ⟨by rw [rng_len]; omega, rfl⟩, ?_, ?_⟩
      · rintro j x acc hx ⟨hL, rfl⟩
        have hj := (List.getElem?_eq_some_iff.mp hx).1
        rw [hL] at hj
        obtain ⟨_, rfl⟩ := rng_at hx
        row_hasAny pu
        refine ⟨rfl, _, rfl, hL, ?_⟩
        rw [List.take_add_one, show (pathL N)[j]? = some ((j : Int), (j : Int) + 1) by unfold pathL; rw [List.getElem?_map, List.getElem?_range hj]; rfl, List.map_append, Int.zero_add]
        all_goals rfl
      · rintro acc ⟨hL, rfl⟩
        rw [hL, List.take_of_length_le (by omega)]
        all_goals exact rfl
    row_hasAny pu
    refine if_d (fun h2 => ?_) (fun h2 => ?_)
    · have e : namL N k = sortP (ringL N) := (if_neg h).trans (if_pos h2)
      rw [e]
      refine p_seqC (fun ρ => ρ = [.sh (.int (N : Int)), .sh (.int k), .no, .no, .ow ((pathL N).map prE), .no, .no]) ?_ ?_
      · row_hasAny pu
        refine p_lc (fun L j acc => L.length = N - 1 ∧ acc = ((pathL N).take j).map prE) ?_
        row_hasAny pu
        refine ⟨by rw [rng_len]; omega, ⟨by rw [rng_len]; omega, rfl⟩, ?_, ?_⟩
        · rintro j x acc hx ⟨hL, rfl⟩
          have hj := (List.getElem?_eq_some_iff.mp hx).1
          rw [hL] at hj
          obtain ⟨_, rfl⟩ := rng_at hx
          row_hasAny pu
          refine ⟨rfl, _, rfl, hL, ?_⟩
          rw [List.take_add_one, show (pathL N)[j]? = some ((j : Int), (j : Int) + 1) by unfold pathL; rw [List.getElem?_map, List.getElem?_range hj]; rfl, List.map_append, Int.zero_add]
          all_goals rfl
        · rintro acc ⟨hL, rfl⟩
          rw [hL, List.take_of_length_le (by omega)]
          refine p_gname ?_
          exact rfl
      rintro ρ rfl
      refine p_seqC (fun ρ => ρ = [.sh (.int (N : Int)), .sh (.int k), .no, .no, .ow ((ringL N).map prE), .no, .no]) ?_ ?_
      · row_hasAny pu
        refine if_d (fun h3 => ?_) (fun h3 => ?_)
        · row_hasAny pu
          refine ⟨_, _, rfl, rfl, by rw [List.length_map]; omega, ?_⟩
          unfold ringL
          rw [if_pos (by omega), List.map_append]
          rfl
        · row_hasAny pu
          unfold ringL
          rw [if_neg (by omega), List.append_nil]
      rintro ρ rfl
      row_hasAny pu
      refine v_sortP ?_
      exact rfl
    row_hasAny pu
    refine if_d (fun h3 => ?_) (fun h3 => ?_)
    · have e : namL N k = [] := (if_neg h).trans ((if_neg h2).trans (if_pos h3))
      rw [e]
      row_hasAny pu
      exact rfl
    row_hasAny pu
    refine if_d (fun h4 => ?_) (fun h4 => ?_)
    · have e : namL N k = starL N := (if_neg h).trans ((if_neg h2).trans ((if_neg h3).trans (if_pos h4)))
      rw [e]
      have sl : (starL N).length = N - 1 := by unfold starL; rw [List.length_map, List.length_range]
      row_hasAny pu
      refine p_lc (fun L j acc => L.length = N - 1 ∧ acc = ((starL N).take j).map prE) ?_
      row_hasAny pu
      refine ⟨by rw [rng_len]; omega, ⟨by rw [rng_len]; omega, rfl⟩, ?_, ?_⟩
      · rintro j x acc hx ⟨hL, rfl⟩
        have hj := (List.getElem?_eq_some_iff.mp hx).1
        rw [hL] at hj
        obtain ⟨_, rfl⟩ := rng_at hx
        row_hasAny pu
        refine ⟨rfl, _, rfl, hL, ?_⟩
        rw [List.take_add_one, show (starL N)[j]? = some ((0 : Int), 1 + (j : Int)) by unfold starL; rw [List.getElem?_map, List.getElem?_range hj]; rfl, List.map_append]
        all_goals rfl
      · rintro acc ⟨hL, rfl⟩
        rw [hL, List.take_of_length_le (by omega)]
        all_goals exact rfl
    row_hasAny pu
    refine if_d (fun h5 => ?_) (fun h5 => ?_)
    · have e : namL N k = intoL N := (if_neg h).trans ((if_neg h2).trans ((if_neg h3).trans ((if_neg h4).trans (if_pos h5))))
      rw [e]
      have sl : (intoL N).length = N - 1 := by unfold intoL; rw [List.length_map, List.length_range]
      row_hasAny pu
      refine p_lc (fun L j acc => L.length = N - 1 ∧ acc = ((intoL N).take j).map prE) ?_
      row_hasAny pu
      refine ⟨by rw [rng_len]; omega, ⟨by rw [rng_len]; omega, rfl⟩, ?_, ?_⟩
      · rintro j x acc hx ⟨hL, rfl⟩
        have hj := (List.getElem?_eq_some_iff.mp hx).1
        rw [hL] at hj
        obtain ⟨_, rfl⟩ := rng_at hx
        row_hasAny pu
        refine ⟨rfl, _, rfl, hL, ?_⟩
        rw [List.take_add_one, show (intoL N)[j]? = some ((j : Int), (N : Int) - 1) by unfold intoL; rw [List.getElem?_map, List.getElem?_range hj]; rfl, List.map_append, Int.zero_add]
        all_goals rfl
      · rintro acc ⟨hL, rfl⟩
        rw [hL, List.take_of_length_le (by omega)]
        all_goals exact rfl
    have e : namL N k = fullL N (decide (k = 3)) N := (if_neg h).trans ((if_neg h2).trans ((if_neg h3).trans ((if_neg h4).trans (if_neg h5))))
    rw [e]
    row_hasAny pu
    refine q_for (fun L i ρ => L.length = N ∧ ∃ z3 z5 : M, ρ = [.sh (.int (N : Int)), .sh (.int k), .ow ((fullL N (decide (k = 3)) i).map prE), z3, .no, z5, .no]) ?_
    row_hasAny pu
    refine ⟨⟨by rw [rng_len]; omega, _, _, rfl⟩, ?_, ?_⟩
    · rintro i x ρ hx ⟨hL, z3, z5, rfl⟩
      have hi := (List.getElem?_eq_some_iff.mp hx).1
      rw [hL] at hi
      obtain ⟨_, rfl⟩ := rng_at hx
      rw [Int.zero_add, fullL_succ]
      have hfl := fullL_len N (decide (k = 3)) i
      have him : i * N ≤ 2100 * 2100 := Nat.mul_le_mul (by omega) (by omega)
      generalize fullL N (decide (k = 3)) i = F at hfl ⊢
      row_hasAny pu
      refine q_for (fun L j ρ => L.length = N ∧ ∃ z5 : M, ρ = [.sh (.int (N : Int)), .sh (.int k), .ow ((F ++ fullR N (decide (k = 3)) i j).map prE), .sh (.int (i : Int)), .no, z5, .no]) ?_
      row_hasAny pu
      refine ⟨⟨by rw [rng_len]; omega, _, by rw [show fullR N (decide (k = 3)) i 0 = [] from rfl, List.append_nil]; rfl⟩, ?_, ?_⟩
      · rintro j x ρ hx ⟨hL2, z5, rfl⟩
        have hj := (List.getElem?_eq_some_iff.mp hx).1
        rw [hL2] at hj
        obtain ⟨_, rfl⟩ := rng_at hx
        have hrl := fullR_len N (decide (k = 3)) i j
        have hstep : fullR N (decide (k = 3)) i (j + 1) = fullR N (decide (k = 3)) i j ++ (if i < j ∨ (k = 3 ∧ j < i) then [((i : Int), (j : Int))] else []) := by
          unfold fullR
          rw [List.range_succ, List.filter_append, List.map_append]
          congr 1
          by_cases hc : i < j ∨ (k = 3 ∧ j < i)
          · rw [if_pos hc, List.filter_cons_of_pos (by simpa using hc)]
            rfl
          · rw [if_neg hc, List.filter_cons_of_neg (by simpa using hc)]
            rfl
        rw [hstep, Int.zero_add]
        generalize fullR N (decide (k = 3)) i j = G at hrl ⊢
        have hit : ∀ {b : Bool}, (i < j ∨ (k = 3 ∧ j < i)) → ∃ es' e', M.ow ((F ++ G).map prE) = .ow es' ∧ e' = Pl.E.tup [.int (i : Int), .int (j : Int)] ∧ es'.length < sizeLine := fun _ => ⟨_, _, rfl, rfl, by rw [List.length_map, List.length_append]; omega⟩
        clear hit
        row_hasAny pu
        refine if_d (fun h6 => ?_) (fun h6 => ?_)
        · row_hasAny pu
          refine ⟨_, _, rfl, rfl, by rw [List.length_map, List.length_append]; omega, hL2, .sh (.int (j : Int)), ?_⟩
          rw [if_pos (.inl (by omega)), ← List.append_assoc, List.map_append (l₁ := F ++ G)]
          rfl
        row_hasAny pu
        refine if_d (fun h7 => ?_) (fun h7 => ?_)
        · row_hasAny pu
          refine if_d (fun h8 => ?_) (fun h8 => ?_)
          · row_hasAny pu
            refine ⟨_, _, rfl, rfl, by rw [List.length_map, List.length_append]; omega, hL2, .sh (.int (j : Int)), ?_⟩
            rw [if_pos (.inr ⟨h7, by omega⟩), ← List.append_assoc, List.map_append (l₁ := F ++ G)]
            rfl
          · row_hasAny pu
            refine ⟨hL2, .sh (.int (j : Int)), ?_⟩
            rw [if_neg (by omega), List.append_nil]
            rfl
        · row_hasAny pu
          refine ⟨hL2, .sh (.int (j : Int)), ?_⟩
          rw [if_neg (by omega), List.append_nil]
          rfl
      · rintro ρ ⟨hL2, z5, rfl⟩
        rw [hL2]
        first | exact ⟨hL, _, _, rfl⟩ | exact ⟨rfl, _, _, rfl⟩
    · rintro ρ ⟨hL, z3, z5, rfl⟩
      rw [hL]
      row_hasAny pu
      exact rfl
theorem path_asc (N : Nat) : (pathL N).Pairwise plt := List.pairwise_map.mpr (List.pairwise_lt_range.imp fun h => .inl (by show (_ : Int) < _; omega))
theorem star_asc (N : Nat) : (starL N).Pairwise plt := List.pairwise_map.mpr (List.pairwise_lt_range.imp fun h => .inr ⟨rfl, by show (1 : Int) + _ < 1 + _; omega⟩)
theorem into_asc (N : Nat) : (intoL N).Pairwise plt := List.pairwise_map.mpr (List.pairwise_lt_range.imp fun h => .inl (by show (_ : Int) < _; omega))
theorem mem_path {N : Nat} {q : Int × Int} : q ∈ pathL N ↔ ∃ k : Nat, k + 1 < N ∧ q = ((k : Int), (k : Int) + 1) := by
  unfold pathL
  rw [List.mem_map]
  exact ⟨fun ⟨k, hk, e⟩ => ⟨k, by have := List.mem_range.mp hk; omega, e.symm⟩, fun ⟨k, hk, e⟩ => ⟨k, List.mem_range.mpr (by omega), e.symm⟩⟩
theorem ring_nodup (N : Nat) : (ringL N).Nodup := by
  unfold ringL
  refine List.nodup_append.mpr ⟨plt_nd (path_asc N), by split <;> simp, fun x hx y hy => ?_⟩
  split at hy
  · rw [List.mem_singleton.mp hy]
    rintro rfl
    obtain ⟨k, _, e⟩ := mem_path.mp hx
    have := congrArg Prod.snd e
    simp only at this
    omega
  · cases hy
theorem fullL_asc (N : Nat) (all : Bool) (m : Nat) : (fullL N all m).Pairwise plt := by
  unfold fullL
  refine List.pairwise_flatMap.mpr ⟨fun u _ => List.pairwise_map.mpr ((List.pairwise_lt_range.filter _).imp fun h => .inr ⟨rfl, by show (_ : Int) < _; omega⟩), List.pairwise_lt_range.imp fun {u v} h x hx y hy => ?_⟩
  obtain ⟨_, _, rfl⟩ := List.mem_map.mp hx
  obtain ⟨_, _, rfl⟩ := List.mem_map.mp hy
  exact .inl (by show (_ : Int) < _; omega)
theorem namL_asc (N : Nat) (k : Int) : (namL N k).Pairwise plt := by
  unfold namL
  by_cases h1 : k = 1
  · rw [if_pos h1]; exact path_asc N
  rw [if_neg h1]
  by_cases h2 : k = 2
  · rw [if_pos h2, sortP_arrS (ring_nodup N)]; exact arrS_asc _
  rw [if_neg h2]
  by_cases h3 : k = 4
  · rw [if_pos h3]; exact List.Pairwise.nil
  rw [if_neg h3]
  by_cases h4 : k = 5
  · rw [if_pos h4]; exact star_asc N
  rw [if_neg h4]
  by_cases h5 : k = 6
  · rw [if_pos h5]; exact into_asc N
  rw [if_neg h5]
  exact fullL_asc N _ N
theorem namL_within (N : Nat) (k : Int) : Within N (namL N k) := fun q hq => by
  unfold namL at hq
  by_cases h1 : k = 1
  · rw [if_pos h1] at hq
    obtain ⟨i, hi, rfl⟩ := mem_path.mp hq
    exact ⟨by show (0 : Int) ≤ (i : Int); omega, by show (i : Int) < (N : Int); omega, by show (0 : Int) ≤ (i : Int) + 1; omega, by show (i : Int) + 1 < (N : Int); omega⟩
  rw [if_neg h1] at hq
  by_cases h2 : k = 2
  · rw [if_pos h2, sortP_arrS (ring_nodup N), mem_arrS] at hq
    unfold ringL at hq
    rcases List.mem_append.mp hq with h | h
    · obtain ⟨i, hi, rfl⟩ := mem_path.mp h
      exact ⟨by show (0 : Int) ≤ (i : Int); omega, by show (i : Int) < (N : Int); omega, by show (0 : Int) ≤ (i : Int) + 1; omega, by show (i : Int) + 1 < (N : Int); omega⟩
    · split at h
      · rw [List.mem_singleton.mp h]
        exact ⟨by show (0 : Int) ≤ (N : Int) - 1; omega, by show (N : Int) - 1 < (N : Int); omega, by show (0 : Int) ≤ 0; omega, by show (0 : Int) < (N : Int); omega⟩
      · cases h
  rw [if_neg h2] at hq
  by_cases h3 : k = 4
  · rw [if_pos h3] at hq; cases hq
  rw [if_neg h3] at hq
  by_cases h4 : k = 5
  · rw [if_pos h4] at hq
    obtain ⟨i, hi, rfl⟩ := List.mem_map.mp hq
    have := List.mem_range.mp hi
    exact ⟨by show (0 : Int) ≤ 0; omega, by show (0 : Int) < (N : Int); omega, by show (0 : Int) ≤ 1 + (i : Int); omega, by show 1 + (i : Int) < (N : Int); omega⟩
  rw [if_neg h4] at hq
  by_cases h5 : k = 6
  · rw [if_pos h5] at hq
    obtain ⟨i, hi, rfl⟩ := List.mem_map.mp hq
    have := List.mem_range.mp hi
    exact ⟨by show (0 : Int) ≤ (i : Int); omega, by show (i : Int) < (N : Int); omega, by show (0 : Int) ≤ (N : Int) - 1; omega, by show (N : Int) - 1 < (N : Int); omega⟩
  rw [if_neg h5] at hq
  obtain ⟨u, hu, hq⟩ := List.mem_flatMap.mp hq
  obtain ⟨v, hv, rfl⟩ := List.mem_map.mp hq
  have := List.mem_range.mp hu
  have := List.mem_range.mp (List.mem_filter.mp hv).1
  exact ⟨by show (0 : Int) ≤ (u : Int); omega, by show (u : Int) < (N : Int); omega, by show (0 : Int) ≤ (v : Int); omega, by show (v : Int) < (N : Int); omega⟩
/-- a web of so many places has at most the square of arrows -/
theorem within_len {N : Nat} {A : List (Int × Int)} (nd : A.Nodup) (h : Within N A) : A.length ≤ N * N := by
  have h1 := nodup_sub_len (m := (List.range N).flatMap fun u : Nat => (List.range N).map fun v : Nat => ((u : Int), (v : Int))) nd fun q hq => by
    obtain ⟨h1, h2, h3, h4⟩ := h q hq
    exact List.mem_flatMap.mpr ⟨q.1.toNat, List.mem_range.mpr (by omega), List.mem_map.mpr ⟨q.2.toNat, List.mem_range.mpr (by omega), Prod.ext (by show ((q.1.toNat : Nat) : Int) = q.1; omega) (by show ((q.2.toNat : Nat) : Int) = q.2; omega)⟩⟩
  have h2 := flat_lenB (l := List.range N) (f := fun u : Nat => (List.range N).map fun v : Nat => ((u : Int), (v : Int))) (c := N) fun u _ => by rw [List.length_map, List.length_range]; exact Nat.le_refl _
  rw [List.length_range] at h2
  omega

/-! ### _law_web -/
--@hint sorted(arrows) => data
def f_law_web : List M → Option Br
  | [.sto, .sh (.int most)] => some ⟨0 ≤ most ∧ most ≤ 200, fun m => ∃ (N : Nat) (A : List (Int × Int)), m = .ow [.int (N : Int), .lst (A.map prE)] ∧ (N : Int) ≤ most ∧ A.Pairwise plt ∧ Within N A ∧ A.length ≤ N * N, fun _ _ => False⟩
  | _ => none
/-- where the loops meet a pair -/
def keyD (k : Nat) (q : Int × Int) : Int × Int := if k = 2 ∧ q.2 < q.1 then (q.2, q.1) else q
theorem ok_law_web (T : Txt K mg a d) : FnOk P w K mg base CX0 4 a.law_web d.law_web ["store", "most"] (spC (ctF f_law_web)) := by
  refine T.F_law_web.ok sc_law_web (fun vs H Q E h => spF_len (fun ms b hf => by unfold f_law_web at hf; split at hf <;> first | rfl | cases hf) h) (fun cdv A outer s H vs Q E hr h => ⟨_, (pss_cons (ps_set (i := 2) sc_law_web.nd rfl (by first | exact Or.inl rfl | exact Or.inr rfl) (pe_call (ok_law_edge (P := P) T) (hr.mono (by omega)) rfl T.g_law_edge T.F_law_edge.kp T.b_law_edge .nil pass0 (pa_cons (pv 0) (pa_cons pe_int (pa_cons (pv 1) pa_nil)))))
      (pss_cons (ps_set (i := 3) sc_law_web.nd rfl (by first | exact Or.inl rfl | exact Or.inr rfl) (pe_call (ok_law_take (P := P) T) (hr.mono (by omega)) rfl T.g_law_take T.F_law_take.kp T.b_law_take .nil pass0 (pa_cons (pv 0) (pa_cons pe_int pa_nil))))
      (pss_cons (ps_if (pt_cmpR op_lt (pv 3) pe_int (nomark _)) (pss_one (ps_ret (pe_lst (pa_cons (pv 2) (pa_cons (pe_call (ok_law_named_arrows (P := P) T) (hr.mono (by omega)) rfl T.g_law_named_arrows T.F_law_named_arrows.kp T.b_law_named_arrows .nil pass0 (pa_cons (pv 2) (pa_cons (pe_call (ok_law_take (P := P) T) (hr.mono (by omega)) rfl T.g_law_take T.F_law_take.kp T.b_law_take .nil pass0 (pa_cons (pv 0) (pa_cons pe_int pa_nil))) pa_nil))) pa_nil))))) pss_nil)
      (pss_cons (ps_set (i := 3) sc_law_web.nd rfl (by first | exact Or.inl rfl | exact Or.inr rfl) (pe_call (ok_law_take (P := P) T) (hr.mono (by omega)) rfl T.g_law_take T.F_law_take.kp T.b_law_take .nil pass0 (pa_cons (pv 0) (pa_cons pe_int pa_nil))))
      (pss_cons (ps_set (i := 4) sc_law_web.nd rfl (by first | exact Or.inl rfl | exact Or.inr rfl) (pe_op (k_add K) pe_int (pe_call (ok_law_take (P := P) T) (hr.mono (by omega)) rfl T.g_law_take T.F_law_take.kp T.b_law_take .nil pass0 (pa_cons (pv 0) (pa_cons pe_int pa_nil)))))
      (pss_cons (ps_set (i := 5) sc_law_web.nd rfl (by first | exact Or.inl rfl | exact Or.inr rfl) (pe_lst pa_nil))
      (pss_cons (ps_for PassesOwn.never rfl (pi_range1 rfl T.m_range (pa_cons (pv 2) pa_nil)) (pg_name (i := 6) sc_law_web.nd rfl (by first | exact Or.inl rfl | exact Or.inr rfl)) (pss_one (ps_for PassesOwn.never rfl (pi_range1 rfl T.m_range (pa_cons (pv 2) pa_nil)) (pg_name (i := 7) sc_law_web.nd rfl (by first | exact Or.inl rfl | exact Or.inr rfl)) (pss_one (ps_if (PW.pt (pw_or (pt_cmpR op_lt (pv 6) (pv 7) (nomark _)) (pw_or (PW.pt (pw_and (pt_cmpR op_gt (pv 6) (pv 7) (nomark _)) (pw_and1 (pt_cmpR (k_in K) (pv 3) (pe_tup (pa_cons pe_int (pa_cons pe_int pa_nil))) rfl)))) (pw_or1 (PW.pt (pw_and (pt_cmpR (k_eq K hr.units) (pv 6) (pv 7) (nomark _)) (pw_and1 (pt_cmpR (k_eq K hr.units) (pv 3) pe_int (nomark _))))))))) (pss_one (ps_if (pt_cmpR op_lt (pe_call (ok_law_take (P := P) T) (hr.mono (by omega)) rfl T.g_law_take T.F_law_take.kp T.b_law_take .nil pass0 (pa_cons (pv 0) (pa_cons pe_int pa_nil))) (pv 4) (nomark _)) (pss_cons (ps_expr (pe_bm PySem.F.plainAttrs_list PySem.F.slot_list_append PySem.F.type_list_append mt_append (pv 5) (pa_cons (pe_tup (pa_cons (pv 6) (pa_cons (pv 7) pa_nil))) pa_nil)))
      (pss_one (ps_if (pt_cmpR (k_eq K hr.units) (pv 3) pe_int (nomark _)) (pss_one (ps_expr (pe_bm PySem.F.plainAttrs_list PySem.F.slot_list_append PySem.F.type_list_append mt_append (pv 5) (pa_cons (pe_tup (pa_cons (pv 7) (pa_cons (pv 6) pa_nil))) pa_nil)))) pss_nil))) pss_nil)) pss_nil)))))
      (pss_one (ps_ret (pe_lst (pa_cons (pv 2) (pa_cons (pe_callB (k_sortD K hr.units) (by rfl) T.m_sorted bt_sorted (pa_cons (pv 5) pa_nil)) pa_nil)))))))))))), p_bodyF h fun ms b hf hp => ?_⟩)
  unfold f_law_web at hf
  split at hf
  rotate_right
  · cases hf
  · rename_i most
    cases hf
    obtain ⟨m0, m1⟩ := (show 0 ≤ most ∧ most ≤ 200 from hp)
    have zl : sizeLine = 16777216 := sizeLine_eq
    refine p_seqC (fun ρ => ∃ N : Nat, (N : Int) ≤ most ∧ ρ = [.sto, .sh (.int most), .sh (.int (N : Int)), .no, .no, .no, .no, .no]) ?_ ?_
    · row_hasAny pu
      refine cbN rfl (small7 (by omega)) ?_
      rintro m ⟨n, rfl, n0, n1, _⟩
      obtain ⟨N, rfl⟩ := Int.eq_ofNat_of_zero_le n0
      row_hasAny pu
      exact ⟨N, n1 m0, rfl⟩
    rintro ρ ⟨N, hN, rfl⟩
    refine p_seqC (fun ρ => ∃ k : Int, ρ = [.sto, .sh (.int most), .sh (.int (N : Int)), .sh (.int k), .no, .no, .no, .no]) ?_ ?_
    · row_hasAny pu
      exact ⟨_, rfl⟩
    rintro ρ ⟨k, rfl⟩
    refine p_seqC (fun ρ => ρ = [.sto, .sh (.int most), .sh (.int (N : Int)), .sh (.int k), .no, .no, .no, .no]) ?_ ?_
    · row_hasAny pu
      refine if_d (fun h => ?_) (fun h => ?_)
      · row_hasAny pu
        rw [Int.toNat_natCast]
        refine ⟨_, _, rfl, hN, namL_asc _ _, namL_within _ _, within_len (plt_nd (namL_asc _ _)) (namL_within _ _)⟩
      · row_hasAny pu
        exact rfl
    rintro ρ rfl
    refine p_seqC (fun ρ => ∃ k : Nat, ρ = [.sto, .sh (.int most), .sh (.int (N : Int)), .sh (.int (k : Int)), .no, .no, .no, .no]) ?_ ?_
    · row_hasAny pu
      rename_i t t0 t1
      obtain ⟨k, rfl⟩ := Int.eq_ofNat_of_zero_le t0
      exact ⟨k, rfl⟩
    rintro ρ ⟨k, rfl⟩
    refine p_seqC (fun ρ => ∃ s : Int, ρ = [.sto, .sh (.int most), .sh (.int (N : Int)), .sh (.int (k : Int)), .sh (.int s), .no, .no, .no]) ?_ ?_
    · row_hasAny pu
      exact ⟨_, rfl⟩
    rintro ρ ⟨s, rfl⟩
    refine p_seqC (fun ρ => ρ = [.sto, .sh (.int most), .sh (.int (N : Int)), .sh (.int (k : Int)), .sh (.int s), .ow [], .no, .no]) ?_ ?_
    · row_hasAny pu
      exact rfl
    rintro ρ rfl
    have hNN : N * N ≤ 200 * 200 := Nat.mul_le_mul (by omega) (by omega)
    refine p_seqC (fun ρ => ∃ (A : List (Int × Int)) (z6 z7 : M), A.Nodup ∧ Within N A ∧ ρ = [.sto, .sh (.int most), .sh (.int (N : Int)), .sh (.int (k : Int)), .sh (.int s), .ow (A.map prE), z6, z7]) ?_ ?_
    · refine q_for (fun L i ρ => L.length = N ∧ ∃ (A : List (Int × Int)) (z6 z7 : M), A.Nodup ∧ Within N A ∧ (∀ q ∈ A, plt (keyD k q) ((i : Int), 0)) ∧ ρ = [.sto, .sh (.int most), .sh (.int (N : Int)), .sh (.int (k : Int)), .sh (.int s), .ow (A.map prE), z6, z7]) ?_
      row_hasAny pu
      refine ⟨⟨by rw [rng_len]; omega, [], _, _, List.nodup_nil, nofun, nofun, rfl⟩, ?_, ?_⟩
      · rintro i x ρ hx ⟨hL, A, z6, z7, hnd, hW, hK, rfl⟩
        have hi := (List.getElem?_eq_some_iff.mp hx).1
        rw [hL] at hi
        obtain ⟨_, rfl⟩ := rng_at hx
        rw [Int.zero_add]
        refine p_gname ?_
        refine q_for (fun L j ρ => L.length = N ∧ ∃ (A : List (Int × Int)) (z7 : M), A.Nodup ∧ Within N A ∧ (∀ q ∈ A, plt (keyD k q) ((i : Int), (j : Int))) ∧ ρ = [.sto, .sh (.int most), .sh (.int (N : Int)), .sh (.int (k : Int)), .sh (.int s), .ow (A.map prE), .sh (.int (i : Int)), z7]) ?_
        row_hasAny pu
        refine ⟨⟨by rw [rng_len]; omega, A, _, hnd, hW, hK, rfl⟩, ?_, ?_⟩
        · clear hK hW hnd A
          rintro j x ρ hx ⟨hL2, A, z7, hnd, hW, hK, rfl⟩
          have hj := (List.getElem?_eq_some_iff.mp hx).1
          rw [hL2] at hj
          obtain ⟨_, rfl⟩ := rng_at hx
          rw [Int.zero_add]
          have hlen := within_len hnd hW
          have hK1 : ∀ q ∈ A, plt (keyD k q) ((i : Int), ((j + 1 : Nat) : Int)) := fun q hq => by
            rcases hK q hq with h | ⟨h1, h2⟩
            · exact .inl h
            · exact .inr ⟨h1, by show (keyD k q).2 < ((j + 1 : Nat) : Int); have : (keyD k q).2 < (j : Int) := h2; omega⟩
          refine p_gname ?_
          refine q_if ?_
          refine pT.mono (Q := fun b ρ1 => ρ1 = [.sto, .sh (.int most), .sh (.int (N : Int)), .sh (.int (k : Int)), .sh (.int s), .ow (A.map prE), .sh (.int (i : Int)), .sh (.int (j : Int))] ∧ (b = true → k = 2 → i < j)) ?_ ?_
          · row_hasAny pu
            refine if_d (fun h => ?_) (fun h => ?_)
            · exact ⟨rfl, fun _ _ => by omega⟩
            row_hasAny pu
            refine if_d (fun h1 => ?_) (fun h1 => ?_)
            · row_hasAny pu
              refine v_inTN (ts := [1, 3]) ?_
              row_hasAny pu
              by_cases hk2 : k = 2
              · subst hk2
                refine if_f rfl ?_
                row_hasAny pu
                exact ⟨rfl, fun h => by cases h⟩
              · have any2 : ∀ b : Bool, (b = true → k = 2 → i < j) := fun b _ h => absurd h hk2
                cases hb : decide (k ∈ [1, 3]) with
                | true =>
                  refine if_t rfl ?_
                  exact ⟨rfl, any2 _⟩
                | false =>
                  refine if_f rfl ?_
                  row_hasAny pu
                  exact ⟨rfl, any2 _⟩
            · row_hasAny pu
              exact ⟨rfl, fun h hk => by have := of_decide_eq_true h; omega⟩
          rintro b ρ1 ⟨rfl, hb⟩
          cases b with
          | false =>
            refine if_f rfl ?_
            refine q_next ?_
            exact ⟨hL2, A, _, hnd, hW, hK1, rfl⟩
          | true =>
            have hb := hb rfl
            refine if_t rfl ?_
            have key1 : keyD k ((i : Int), (j : Int)) = ((i : Int), (j : Int)) := if_neg (by rintro ⟨h1, h2⟩; have := hb h1; have h2 : (j : Int) < (i : Int) := h2; omega)
            have no1 : ∀ q, keyD k q = ((i : Int), (j : Int)) → q ∉ A := fun q h hq => by
              rcases hK q hq with z | ⟨_, z⟩ <;> rw [h] at z <;> exact absurd z (Int.lt_irrefl _)
            have hnd1 : (A ++ [((i : Int), (j : Int))]).Nodup := List.nodup_append.mpr ⟨hnd, by simp, fun x hx y hy => by rw [List.mem_singleton.mp hy]; rintro rfl; exact no1 _ key1 hx⟩
            have pij : ((i : Int), (j : Int)).1 ≥ 0 ∧ True := ⟨by show (i : Int) ≥ 0; omega, trivial⟩
            have hW1 : Within N (A ++ [((i : Int), (j : Int))]) := fun q hq => by
              rcases List.mem_append.mp hq with h | h
              · exact hW q h
              · rw [List.mem_singleton.mp h]
                exact ⟨by show (0 : Int) ≤ (i : Int); omega, by show (i : Int) < (N : Int); omega, by show (0 : Int) ≤ (j : Int); omega, by show (j : Int) < (N : Int); omega⟩
            have up1 : ∀ q, keyD k q = ((i : Int), (j : Int)) → plt (keyD k q) ((i : Int), ((j + 1 : Nat) : Int)) := fun q h => by
              rw [h]
              exact .inr ⟨rfl, by show (j : Int) < ((j + 1 : Nat) : Int); omega⟩
            have hK2 : ∀ q ∈ A ++ [((i : Int), (j : Int))], plt (keyD k q) ((i : Int), ((j + 1 : Nat) : Int)) := fun q hq => by
              rcases List.mem_append.mp hq with h | h
              · exact hK1 q h
              · exact up1 q (by rw [List.mem_singleton.mp h]; exact key1)
            have hlen1 := within_len hnd1 hW1
            row_hasAny pu
            refine if_d (fun h => ?_) (fun h => ?_)
            · row_hasAny pu
              refine ⟨_, _, rfl, rfl, by rw [List.length_map]; omega, ?_⟩
              row_hasAny pu
              refine if_d (fun h2 => ?_) (fun h2 => ?_)
              · have hk2 : k = 2 := by omega
                have hij := hb hk2
                have key2 : keyD k ((j : Int), (i : Int)) = ((i : Int), (j : Int)) := if_pos ⟨hk2, by show (i : Int) < (j : Int); omega⟩
                have hnd2 : (A ++ [((i : Int), (j : Int))] ++ [((j : Int), (i : Int))]).Nodup := List.nodup_append.mpr ⟨hnd1, by simp, fun x hx y hy => by
                  rw [List.mem_singleton.mp hy]
                  rintro rfl
                  rcases List.mem_append.mp hx with h | h
                  · exact no1 _ key2 h
                  · have := congrArg Prod.fst (List.mem_singleton.mp h)
                    have : (j : Int) = (i : Int) := this
                    omega⟩
                have hW2 : Within N (A ++ [((i : Int), (j : Int))] ++ [((j : Int), (i : Int))]) := fun q hq => by
                  rcases List.mem_append.mp hq with h | h
                  · exact hW1 q h
                  · rw [List.mem_singleton.mp h]
                    exact ⟨by show (0 : Int) ≤ (j : Int); omega, by show (j : Int) < (N : Int); omega, by show (0 : Int) ≤ (i : Int); omega, by show (i : Int) < (N : Int); omega⟩
                row_hasAny pu
                refine ⟨_, _, rfl, rfl, by rw [List.length_append, List.length_map]; rw [List.length_append] at hlen1; exact (show A.length + 1 < sizeLine by have : A.length + [((i : Int), (j : Int))].length ≤ N * N := hlen1; have h1 : [((i : Int), (j : Int))].length = 1 := rfl; omega), hL2, A ++ [((i : Int), (j : Int))] ++ [((j : Int), (i : Int))], .sh (.int (j : Int)), hnd2, hW2, fun q hq => ?_, ?_⟩
                · rcases List.mem_append.mp hq with h | h
                  · exact hK2 q h
                  · exact up1 q (by rw [List.mem_singleton.mp h]; exact key2)
                · rw [List.map_append, List.map_append]
                  rfl
              · row_hasAny pu
                refine ⟨hL2, A ++ [((i : Int), (j : Int))], .sh (.int (j : Int)), hnd1, hW1, hK2, ?_⟩
                rw [List.map_append]
                rfl
            · row_hasAny pu
              exact ⟨hL2, A, _, hnd, hW, hK1, rfl⟩
        · rintro ρ ⟨hL2, A, z7, hnd, hW, hK, rfl⟩
          rw [hL2] at hK
          refine ⟨hL, A, _, _, hnd, hW, fun q hq => ?_, rfl⟩
          rcases hK q hq with h | ⟨h1, _⟩
          · exact .inl (by show (keyD k q).1 < ((i + 1 : Nat) : Int); have : (keyD k q).1 < (i : Int) := h; omega)
          · exact .inl (by show (keyD k q).1 < ((i + 1 : Nat) : Int); have : (keyD k q).1 = (i : Int) := h1; omega)
      · rintro ρ ⟨hL, A, z6, z7, hnd, hW, _, rfl⟩
        exact ⟨A, z6, z7, hnd, hW, rfl⟩
    rintro ρ ⟨A, z6, z7, hnd, hW, rfl⟩
    row_hasAny pu
    refine v_sortP ?_
    rw [sortP_arrS hnd]
    row_hasAny pu
    exact ⟨N, arrS A, rfl, hN, arrS_asc A, fun q hq => hW q (mem_arrS.mp hq), within_len (plt_nd (arrS_asc A)) fun q hq => hW q (mem_arrS.mp hq)⟩

/-! ### _law_pair_forms -/
/-- a sequence of pairs that are A, perhaps some of them again -/
def pairsOf (A : List (Int × Int)) (e : Pl.E) : Prop := ∃ es A', sq e = some es ∧ allPr es = some A' ∧ (∀ p, p ∈ A' ↔ p ∈ A) ∧ A'.length ≤ A.length + 4 ∧ ∀ x ∈ es, plain x = true
theorem prOf_sq {p : Int × Int} {e : Pl.E} (h : sq e = some [.int p.1, .int p.2]) : prOf e = some p ∧ plain e = true := by
  rcases sq_cases h with rfl | rfl <;> exact ⟨rfl, rfl⟩
theorem allPr_each {acc : List Pl.E} : ∀ {B : List (Int × Int)}, Each (fun x y => ∃ p, x = prE p ∧ sq y = some [.int p.1, .int p.2]) (B.map prE) acc → allPr acc = some B ∧ ∀ x ∈ acc, plain x = true
  | [], h => by
    cases acc with
    | nil => exact ⟨rfl, nofun⟩
    | cons _ _ => exact h.elim
  | q :: B, h => by
    cases acc with
    | nil => exact h.elim
    | cons y acc =>
      obtain ⟨⟨p, e, hy⟩, h2⟩ := h
      obtain ⟨g1, g2⟩ := allPr_each h2
      have epq : q = p := prE_inj (A := [q]) (B := [p]) (congrArg (fun z => [z]) e) |> fun h => (List.cons.inj h).1
      subst epq
      obtain ⟨g3, g4⟩ := prOf_sq hy
      refine ⟨?_, fun x hx => ?_⟩
      · show (match prOf y, allPr acc with
          | some p, some A => some (p :: A)
          | _, _ => none) = _
        rw [g3, g1]
      · rcases List.mem_cons.mp hx with rfl | hx
        · exact g4
        · exact g2 x hx
theorem perm_map {B : List (Int × Int)} {fs : List Pl.E} (h : fs.Perm (B.map prE)) : ∃ B' : List (Int × Int), fs = B'.map prE ∧ B'.Perm B := by
  generalize hg : B.map prE = gs at h
  induction h generalizing B with
  | nil =>
    cases B with
    | nil => exact ⟨[], rfl, List.Perm.refl _⟩
    | cons _ _ => cases hg
  | cons x _ ih =>
    cases B with
    | nil => cases hg
    | cons b B =>
      rw [List.map_cons, List.cons.injEq] at hg
      obtain ⟨B', rfl, h2⟩ := ih hg.2
      exact ⟨b :: B', by rw [List.map_cons, hg.1], h2.cons b⟩
  | swap x y l =>
    match B, hg with
    | b :: c :: B, hg =>
      rw [List.map_cons, List.map_cons, List.cons.injEq, List.cons.injEq] at hg
      exact ⟨c :: b :: B, by rw [List.map_cons, List.map_cons, hg.1, hg.2.1, hg.2.2], List.Perm.swap ..⟩
  | trans _ _ ih1 ih2 =>
    obtain ⟨B2, h1, h2⟩ := ih2 hg
    obtain ⟨B3, h3, h4⟩ := ih1 h1.symm
    exact ⟨B3, h3, h4.trans h2⟩
def f_law_pair_forms : List M → Option Br
  | [.sto, .sh (.lst es)] => some ⟨∃ A : List (Int × Int), es = A.map prE ∧ A.length ≤ 9000, fun m => ∀ A : List (Int × Int), es = A.map prE → ∃ e, m.frz = .sh e ∧ m ≠ .no ∧ pairsOf A e, fun _ _ => False⟩
  | _ => none
theorem ok_law_pair_forms (T : Txt K mg a d) : FnOk P w K mg base CX0 4 a.law_pair_forms d.law_pair_forms ["store", "arrows"] (spC (ctF f_law_pair_forms)) := by
  refine T.F_law_pair_forms.ok sc_law_pair_forms (fun vs H Q E h => spF_len (fun ms b hf => by unfold f_law_pair_forms at hf; split at hf <;> first | rfl | cases hf) h) (fun cdv A outer s H vs Q E hr h => ⟨_, (pss_cons (ps_set (i := 2) sc_law_pair_forms.nd rfl (by first | exact Or.inl rfl | exact Or.inr rfl) (pe_callTy (k_list K) (by rfl) T.m_list bt_list (pa_cons (pv 1) pa_nil)))
      (pss_cons (ps_if (k_tru K (pv 1)) (pss_one (ps_for PassesOwn.never rfl (pi_range1 rfl T.m_range (pa_cons (pe_call (ok_law_take (P := P) T) (hr.mono (by omega)) rfl T.g_law_take T.F_law_take.kp T.b_law_take .nil pass0 (pa_cons (pv 0) (pa_cons pe_int pa_nil))) pa_nil)) (pg_name (i := 3) sc_law_pair_forms.nd rfl (by first | exact Or.inl rfl | exact Or.inr rfl)) (pss_one (ps_expr (pe_bm PySem.F.plainAttrs_list PySem.F.slot_list_append PySem.F.type_list_append mt_append (pv 2) (pa_cons (pe_ix (k_ix K) (pv 1) (pe_call (ok_law_take (P := P) T) (hr.mono (by omega)) rfl T.g_law_take T.F_law_take.kp T.b_law_take .nil pass0 (pa_cons (pv 0) (pa_cons (pe_callB (k_len K) (by rfl) T.m_len bt_len (pa_cons (pv 1) pa_nil)) pa_nil))) (fun _ _ => rfl)) pa_nil)))))) pss_nil)
      (pss_one (ps_ret (pe_call (ok_law_form (P := P) T) (hr.mono (by omega)) rfl T.g_law_form T.F_law_form.kp T.b_law_form .nil pass0 (pa_cons (pv 0) (pa_cons (pe_lc (own := [("pair", 4)]) (g := gName 4) (tt := tYes) rfl sc_law_pair_forms.nd (kp_list K (pe_call (ok_law_shuffled (P := P) T) (hr.mono (by omega)) rfl T.g_law_shuffled T.F_law_shuffled.kp T.b_law_shuffled .nil pass0 (pa_cons (pv 0) (pa_cons (pv 2) pa_nil)))) (blkOk_by (N := ["store", "arrows", "row", "k", "pair"]) (sc := defScope s_law_pair_forms) (by decide +kernel)) (fun _ _ _ _ _ => (pg_name (i := 4) sc_law_pair_forms.nd rfl (by first | exact Or.inl rfl | exact Or.inr rfl))) (fun _ _ _ _ _ => pts_nil) (fun _ _ _ _ _ => (pe_call (ok_law_form (P := P) T) (hr.mono (by omega)) rfl T.g_law_form T.F_law_form.kp T.b_law_form .nil pass0 (pa_cons (pv 0) (pa_cons (pv 4) pa_nil))))) pa_nil))))))), p_bodyF h fun ms b hf hp => ?_⟩)
  unfold f_law_pair_forms at hf
  split at hf
  rotate_right
  · cases hf
  · rename_i es
    cases hf
    obtain ⟨A, rfl, hz⟩ := (show ∃ A : List (Int × Int), es = A.map prE ∧ A.length ≤ 9000 from hp)
    have zl : sizeLine = 16777216 := sizeLine_eq
    -- what follows from the row on
    have fin : ∀ (B : List (Int × Int)) (fs : List Pl.E) (acc : List Pl.E) (m : M) (e : Pl.E), (∀ p, p ∈ B ↔ p ∈ A) → B.length ≤ A.length + 4 → fs.Perm (B.map prE) → Each (fun x y => ∃ p, x = prE p ∧ sq y = some [.int p.1, .int p.2]) fs acc → m.frz = .sh e → m ≠ .no → sq e = some acc → ∀ A', A.map prE = A'.map prE → ∃ e, m.frz = .sh e ∧ m ≠ .no ∧ pairsOf A' e := fun B fs acc m e h1 h2 h3 h4 h5 h6 h7 A' h8 => by
      obtain rfl := prE_inj h8
      obtain ⟨B', rfl, h9⟩ := perm_map h3
      obtain ⟨g1, g2⟩ := allPr_each h4
      exact ⟨e, h5, h6, acc, B', h7, g1, fun p => (h9.mem_iff).trans (h1 p), by rw [h9.length_eq]; exact h2, g2⟩
    row_hasAny pu
    have key : ∀ {P Q : Prop} {c : Bool} {C : List (Int × Int) → M → Prop}, ((∀ (B : List (Int × Int)) z, (∀ p, p ∈ B ↔ p ∈ A) → B.length ≤ A.length + 4 → C B z) → if c = true then P else Q) → (∀ (B : List (Int × Int)) z, (∀ p, p ∈ B ↔ p ∈ A) → B.length ≤ A.length + 4 → C B z) → if c = true then P else Q := fun h k => h k
    refine' key (C := _) (fun hC => ?h1) ?h2
    case h1 =>
      by_cases hA : A ≠ []
      · have hpos : 0 < A.length := List.length_pos_iff.mpr hA
        refine if_t (by cases A with
          | nil => exact absurd rfl hA
          | cons _ _ => rfl) ?_
        refine q_for (fun L i ρ => L.length ≤ 4 ∧ ∃ (B : List (Int × Int)) (z : M), (∀ p, p ∈ B ↔ p ∈ A) ∧ B.length ≤ A.length + i ∧ ρ = [.sto, .sh (.lst (A.map prE)), .ow (B.map prE), z, .no]) ?_
        row_hasAny pu
        rename_i t t0 t1
        refine ⟨⟨by rw [rng_len]; omega, A, _, fun _ => Iff.rfl, Nat.le_refl _, rfl⟩, ?_, ?_⟩
        · rintro i x ρ hx ⟨hL, B, z, h1, h2, rfl⟩
          obtain ⟨hi, rfl⟩ := rng_at hx
          have hi4 : i < 4 := by rw [rng_len] at hL; omega
          row_hasAny pu
          refine u_take (small8 (by rw [List.length_map]; omega)) fun u u0 u1 => ?_
          rw [List.length_map] at u1
          obtain ⟨n, rfl⟩ := Int.eq_ofNat_of_zero_le u0
          have hn : n < A.length := by omega
          row_hasAny pu
          refine v_ixL (atI_nat' (show (A.map prE)[n]? = some (prE A[n]) by rw [List.getElem?_map, List.getElem?_eq_getElem hn]; rfl)) ?_
          row_hasAny pu
          refine ⟨_, _, rfl, rfl, by rw [List.length_map]; omega, hL, B ++ [A[n]], _, fun p => ?_, by rw [List.length_append]; show B.length + 1 ≤ _; omega, by rw [List.map_append]; rfl⟩
          rw [List.mem_append, h1 p, List.mem_singleton]
          exact ⟨fun h => h.elim id fun z => by rw [z]; exact List.getElem_mem hn, .inl⟩
        · rintro ρ ⟨hL, B, z, h1, h2, rfl⟩
          exact hC B z h1 (by omega)
      · have hA : A = [] := Decidable.not_not.mp hA
        refine if_f (by rw [hA]; rfl) ?_
        refine q_next ?_
        exact hC A .no (fun _ => Iff.rfl) (Nat.le_add_right _ _)
    clear key
    intro B z h1 h2
    refine q_ret ?_
    row_hasAny pu
    refine p_each (fun x y => ∃ p, x = prE p ∧ sq y = some [.int p.1, .int p.2]) ?_
    refine p_ilist ?_
    row_hasAny pu
    refine u_shuffled (by rw [List.length_map]; omega) fun fs hp => ?_
    have hfl := hp.length_eq
    rw [List.length_map] at hfl
    refine ⟨_, rfl, by omega, fun x hx => ?_, fun acc hacc => ?_⟩
    · obtain ⟨p, _, rfl⟩ := List.mem_map.mp (hp.mem_iff.mp hx)
      row_hasAny pu
      rename_i m e g1 g2 g3
      exact ⟨rfl, e, g1, p, rfl, g2⟩
    · row_hasAny pu
      rename_i m e g1 g2 g3
      exact fin B fs acc m e h1 h2 hp hacc g1 g3 g2

/-! ### _law_order -/
def f_law_order : List M → Option Br
  | [.sto, .sh (.int most)] => some ⟨0 ≤ most ∧ most ≤ 300, fun r => ∃ (N : Nat) (A : List (Int × Int)), r = .ow [.int (N : Int), .lst (A.map prE)] ∧ (N : Int) ≤ most ∧ Rising N A ∧ A.length ≤ N * N, fun _ _ => False⟩
  | _ => none
theorem ok_law_order (T : Txt K mg a d) : FnOk P w K mg base CX0 4 a.law_order d.law_order ["store", "most"] (spC (ctF f_law_order)) := by
  refine T.F_law_order.ok sc_law_order (fun vs H Q E h => spF_len (fun ms b hf => by unfold f_law_order at hf; split at hf <;> first | rfl | cases hf) h) (fun cdv A outer s H vs Q E hr h => ⟨_, (pss_cons (ps_set (i := 2) sc_law_order.nd rfl (by first | exact Or.inl rfl | exact Or.inr rfl) (pe_call (ok_law_edge (P := P) T) (hr.mono (by omega)) rfl T.g_law_edge T.F_law_edge.kp T.b_law_edge .nil pass0 (pa_cons (pv 0) (pa_cons pe_int (pa_cons (pv 1) pa_nil)))))
      (pss_cons (ps_set (i := 3) sc_law_order.nd rfl (by first | exact Or.inl rfl | exact Or.inr rfl) (pe_call (ok_law_take (P := P) T) (hr.mono (by omega)) rfl T.g_law_take T.F_law_take.kp T.b_law_take .nil pass0 (pa_cons (pv 0) (pa_cons pe_int pa_nil))))
      (pss_cons (ps_if (pt_cmpR (k_eq K hr.units) (pv 3) pe_int (nomark _)) (pss_one (ps_ret (pe_lst (pa_cons (pv 2) (pa_cons (pe_lc (own := [("k", 9)]) (g := gName 9) (tt := tYes) rfl sc_law_order.nd (pi_range1 rfl T.m_range (pa_cons (pe_op op_sub (pv 2) pe_int) pa_nil)) (blkOk_by (N := ["store", "most", "size", "kind", "cut", "share", "pairs", "a", "b", "k"]) (sc := defScope s_law_order) (by decide +kernel)) (fun _ _ _ _ _ => (pg_name (i := 9) sc_law_order.nd rfl (by first | exact Or.inl rfl | exact Or.inr rfl))) (fun _ _ _ _ _ => pts_nil) (fun _ _ _ _ _ => (pe_tup (pa_cons (pv 9) (pa_cons (pe_op (k_add K) (pv 9) pe_int) pa_nil))))) pa_nil))))) pss_nil)
      (pss_cons (ps_if (pt_cmpR (k_eq K hr.units) (pv 3) pe_int (nomark _)) (pss_one (ps_ret (pe_lst (pa_cons (pv 2) (pa_cons (pe_lst pa_nil) pa_nil))))) pss_nil)
      (pss_cons (ps_set (i := 4) sc_law_order.nd rfl (by first | exact Or.inl rfl | exact Or.inr rfl) (pe_call (ok_law_take (P := P) T) (hr.mono (by omega)) rfl T.g_law_take T.F_law_take.kp T.b_law_take .nil pass0 (pa_cons (pv 0) (pa_cons (pe_op (k_add K) (pv 2) pe_int) pa_nil))))
      (pss_cons (ps_if (pt_cmpR (k_eq K hr.units) (pv 3) pe_int (nomark _)) (pss_one (ps_ret (pe_lst (pa_cons (pv 2) (pa_cons (pe_lc (own := [("k", 9)]) (g := gName 9) rfl sc_law_order.nd (pi_range1 rfl T.m_range (pa_cons (pe_op op_sub (pv 2) pe_int) pa_nil)) (blkOk_by (N := ["store", "most", "size", "kind", "cut", "share", "pairs", "a", "b", "k"]) (sc := defScope s_law_order) (by decide +kernel)) (fun _ _ _ _ _ => (pg_name (i := 9) sc_law_order.nd rfl (by first | exact Or.inl rfl | exact Or.inr rfl))) (fun _ _ _ _ _ => pts_one (pt_cmpR (k_ne K hr.units) (pe_op (k_add K) (pv 9) pe_int) (pv 4) (nomark _))) (fun _ _ _ _ _ => (pe_tup (pa_cons (pv 9) (pa_cons (pe_op (k_add K) (pv 9) pe_int) pa_nil))))) pa_nil))))) pss_nil)
      (pss_cons (ps_set (i := 5) sc_law_order.nd rfl (by first | exact Or.inl rfl | exact Or.inr rfl) (pe_op (k_add K) pe_int (pe_call (ok_law_take (P := P) T) (hr.mono (by omega)) rfl T.g_law_take T.F_law_take.kp T.b_law_take .nil pass0 (pa_cons (pv 0) (pa_cons pe_int pa_nil)))))
      (pss_cons (ps_set (i := 6) sc_law_order.nd rfl (by first | exact Or.inl rfl | exact Or.inr rfl) (pe_lst pa_nil))
      (pss_cons (ps_for PassesOwn.never rfl (pi_range1 rfl T.m_range (pa_cons (pv 2) pa_nil)) (pg_name (i := 7) sc_law_order.nd rfl (by first | exact Or.inl rfl | exact Or.inr rfl)) (pss_one (ps_for PassesOwn.never rfl (pi_range2 rfl T.m_range (pa_cons (pe_op (k_add K) (pv 7) pe_int) (pa_cons (pv 2) pa_nil))) (pg_name (i := 8) sc_law_order.nd rfl (by first | exact Or.inl rfl | exact Or.inr rfl)) (pss_one (ps_if (pt_cmpR (k_eq K hr.units) (pv 3) pe_int (nomark _)) (pss_one (ps_if (PW.pt (pw_and (pt_cmpR op_lt (pv 7) (pv 4) (nomark _)) (pw_and1 (pt_cmpR op_ge (pv 8) (pv 4) (nomark _))))) (pss_one (ps_expr (pe_bm PySem.F.plainAttrs_list PySem.F.slot_list_append PySem.F.type_list_append mt_append (pv 6) (pa_cons (pe_tup (pa_cons (pv 7) (pa_cons (pv 8) pa_nil))) pa_nil)))) pss_nil)) (pss_one (ps_if (pt_cmpR op_lt (pe_call (ok_law_take (P := P) T) (hr.mono (by omega)) rfl T.g_law_take T.F_law_take.kp T.b_law_take .nil pass0 (pa_cons (pv 0) (pa_cons pe_int pa_nil))) (pv 5) (nomark _)) (pss_one (ps_expr (pe_bm PySem.F.plainAttrs_list PySem.F.slot_list_append PySem.F.type_list_append mt_append (pv 6) (pa_cons (pe_tup (pa_cons (pv 7) (pa_cons (pv 8) pa_nil))) pa_nil)))) pss_nil)))))))
      (pss_one (ps_ret (pe_lst (pa_cons (pv 2) (pa_cons (pv 6) pa_nil)))))))))))))), p_bodyF h fun ms b hf hp => ?_⟩)
  unfold f_law_order at hf
  split at hf
  rotate_right
  · cases hf
  · rename_i most
    cases hf
    obtain ⟨m0, m1⟩ := (show 0 ≤ most ∧ most ≤ 300 from hp)
    have zl : sizeLine = 16777216 := sizeLine_eq
    row_hasAny px
    refine cbN rfl (small7 (by omega)) ?_
    rintro m ⟨n, rfl, n0, n1, _⟩
    have n2 := n1 m0
    obtain ⟨N, rfl⟩ := Int.eq_ofNat_of_zero_le n0
    row_hasAny px
    refine cbN rfl (by decide) ?_
    rintro m ⟨kind, rfl, _, _, _⟩
    row_hasAny px
    have fin : ∀ A : List (Int × Int), Rising N A → A.length ≤ N * N → ∃ (N' : Nat) (A' : List (Int × Int)), M.ow [.int (N : Int), .lst (A.map prE)] = .ow [.int (N' : Int), .lst (A'.map prE)] ∧ (N' : Int) ≤ most ∧ Rising N' A' ∧ A'.length ≤ N' * N' := fun A h1 h2 => ⟨N, A, rfl, n2, h1, h2⟩
    refine if_d (fun h1 => ?_) (fun h1 => ?_)
    · row_hasAny px
      refine p_lc (fun L i acc => ∃ A : List (Int × Int), acc = A.map prE ∧ Rising N A ∧ A.length ≤ i) ?_
      row_hasAny px
      refine ⟨by rw [rng_len]; omega, ⟨[], rfl, Rising.nil, Nat.le_refl _⟩, ?_, ?_⟩
      · rintro i x acc hx ⟨A, rfl, hR, hl⟩
        obtain ⟨hi, rfl⟩ := rng_at hx
        row_hasAny px
        exact ⟨rfl, _, rfl, A ++ [(0 + (i : Int), 0 + (i : Int) + 1)], by rw [List.map_append]; rfl, hR.snoc (by simp only; omega), by rw [List.length_append]; simpa using hl⟩
      · rintro acc ⟨A, rfl, hR, hl⟩
        rw [rng_len] at hl
        row_hasAny px
        exact fin A hR (by have := Nat.le_mul_self N; omega)
    row_hasAny px
    refine if_d (fun h2 => ?_) (fun h2 => ?_)
    · row_hasAny px
      exact fin [] Rising.nil (Nat.zero_le _)
    row_hasAny px
    refine cbN rfl (small8 (by omega)) ?_
    rintro m ⟨cut, rfl, _, _, _⟩
    row_hasAny px
    refine if_d (fun h3 => ?_) (fun h3 => ?_)
    · row_hasAny px
      refine p_lc (fun L i acc => ∃ A : List (Int × Int), acc = A.map prE ∧ Rising N A ∧ A.length ≤ i) ?_
      row_hasAny px
      refine ⟨by rw [rng_len]; omega, ⟨[], rfl, Rising.nil, Nat.le_refl _⟩, ?_, ?_⟩
      · rintro i x acc hx ⟨A, rfl, hR, hl⟩
        obtain ⟨hi, rfl⟩ := rng_at hx
        row_hasAny px
        refine if_nd (fun h3 => ?_) (fun h3 => ?_)
        · row_hasAny px
          exact ⟨rfl, _, rfl, A ++ [(0 + (i : Int), 0 + (i : Int) + 1)], by rw [List.map_append]; rfl, hR.snoc (by simp only; omega), by rw [List.length_append]; simpa using hl⟩
        · exact ⟨rfl, A, rfl, hR, by omega⟩
      · rintro acc ⟨A, rfl, hR, hl⟩
        rw [rng_len] at hl
        row_hasAny px
        exact fin A hR (by have := Nat.le_mul_self N; omega)
    row_hasAny px
    refine cbN rfl (by decide) ?_
    rintro m ⟨share, rfl, _, _, _⟩
    row_hasAny px
    refine q_for (fun L i ρ => ∃ (A : List (Int × Int)) (x y : M), L.length = N ∧ ρ = [.sto, .sh (.int most), .sh (.int N), .sh (.int kind), .sh (.int cut), .sh (.int (1 + share)), .ow (A.map prE), x, y, .no] ∧ Rising N A ∧ A.length ≤ i * N) ?_
    row_hasAny px
    refine ⟨⟨[], _, _, by rw [rng_len]; omega, rfl, Rising.nil, Nat.zero_le _⟩, ?_, ?_⟩
    · rintro i q ρ hq ⟨A, x, y, hL, rfl, hR, hl⟩
      obtain ⟨hi, rfl⟩ := rng_at hq
      row_hasAny px
      refine q_for (fun L j ρ => ∃ (A : List (Int × Int)) (y : M), L.length ≤ N ∧ ρ = [.sto, .sh (.int most), .sh (.int N), .sh (.int kind), .sh (.int cut), .sh (.int (1 + share)), .ow (A.map prE), .sh (.int (0 + (i : Int))), y, .no] ∧ Rising N A ∧ A.length ≤ i * N + j) ?_
      row_hasAny px
      refine ⟨⟨A, _, by rw [rng_len]; omega, rfl, hR, hl⟩, ?_, ?_⟩
      · rintro j q2 ρ hq2 ⟨A, y, hL2, rfl, hR, hl⟩
        obtain ⟨hj, rfl⟩ := rng_at hq2
        have hNN : i * N + j ≤ 300 * 300 + 300 := by
          have := Nat.mul_le_mul (show i ≤ 300 by omega) (show N ≤ 300 by omega)
          omega
        row_hasAny px
        refine if_d (fun h4 => ?_) (fun h4 => ?_)
        · row_hasAny px
          refine if_d (fun h5 => ?_) (fun h5 => ?_)
          · row_hasAny px
            refine if_d (fun h6 => ?_) (fun h6 => ?_)
            · row_hasAny px
              refine ⟨_, _, rfl, rfl, by rw [List.length_map]; omega, ?_⟩
              row_hasAny px
              exact ⟨A ++ [(0 + (i : Int), 0 + (i : Int) + 1 + (j : Int))], _, hL2, by rw [List.map_append]; rfl, hR.snoc (by simp only; omega), by rw [List.length_append]; show A.length + 1 ≤ _; omega⟩
            · row_hasAny px
              exact ⟨A, _, hL2, rfl, hR, by omega⟩
          · row_hasAny px
            exact ⟨A, _, hL2, rfl, hR, by omega⟩
        · row_hasAny px
          refine cbN rfl (by decide) ?_
          rintro m ⟨u, rfl, _, _, _⟩
          row_hasAny px
          refine if_d (fun h5 => ?_) (fun h5 => ?_)
          · row_hasAny px
            refine ⟨_, _, rfl, rfl, by rw [List.length_map]; omega, ?_⟩
            row_hasAny px
            exact ⟨A ++ [(0 + (i : Int), 0 + (i : Int) + 1 + (j : Int))], _, hL2, by rw [List.map_append]; rfl, hR.snoc (by simp only; omega), by rw [List.length_append]; show A.length + 1 ≤ _; omega⟩
          · row_hasAny px
            exact ⟨A, _, hL2, rfl, hR, by omega⟩
      · rintro ρ ⟨A, y, hL2, rfl, hR, hl⟩
        rw [rng_len] at hl
        row_hasAny px
        refine ⟨A, _, _, hL, rfl, hR, ?_⟩
        rw [Nat.succ_mul]
        omega
    · rintro ρ ⟨A, x, y, hL, rfl, hR, hl⟩
      rw [hL] at hl
      row_hasAny px
      exact fin A hR hl

/-! ### _law_below -/
def f_law_below : List M → Option Br
  | [.sh (.int n), .sh (.lst es)] => some ⟨∃ (N : Nat) (A : List (Int × Int)), n = N ∧ N ≤ 300 ∧ es = A.map prE ∧ Rising N A ∧ A.length ≤ 100000,
      fun r => ∀ (N : Nat) (A : List (Int × Int)), n = N → es = A.map prE → ∃ f, r = .sh (.lst ((tab N f).map Pl.E.lst)) ∧ ∀ a b : Nat, a < N → b < N → (f a b = true ↔ Rch A a b), fun _ _ => False⟩
  | _ => none
theorem ok_law_below (T : Txt K mg a d) : FnOk P w K mg base CX0 1 a.law_below d.law_below ["size", "pairs"] (spC (ctF f_law_below)) := by
  refine T.F_law_below.ok sc_law_below (fun vs H Q E h => spF_len (fun ms b hf => by unfold f_law_below at hf; split at hf <;> first | rfl | cases hf) h) (fun cdv A outer s H vs Q E hr h => ⟨_, (pss_cons (ps_setLc (i := 2) (own := [("a", 4)]) (g := gName 4) (tt := tYes) rfl sc_law_below.nd rfl rfl (sw_true rfl rfl rfl (by decide +kernel)) (pi_range1 rfl T.m_range (pa_cons (pv 0) pa_nil)) (blkOk_by (N := ["size", "pairs", "below", "k", "a", "pair", "b"]) (sc := defScope s_law_below) (by decide +kernel)) (fun _ _ _ _ _ => (pg_name (i := 4) sc_law_below.nd rfl (by first | exact Or.inl rfl | exact Or.inr rfl))) (fun _ _ _ _ _ => pts_nil) (fun _ _ _ _ _ => (pe_lc (own := [("b", 6)]) (g := gName 6) (tt := tYes) rfl sc_law_below.nd (pi_range1 rfl T.m_range (pa_cons (pv 0) pa_nil)) (blkOk_by (by kernel_rfl)) (fun _ _ _ _ _ => (pg_name (i := 6) sc_law_below.nd rfl (by first | exact Or.inl rfl | exact Or.inr rfl))) (fun _ _ _ _ _ => pts_nil) (fun _ _ _ _ _ => (pe_cmpR (k_eq K hr.units) (pv 4) (pv 6) (nomark _))))))
      (pss_cons (ps_for PassesOwn.never rfl (pi_range1 rfl T.m_range (pa_cons (pv 0) pa_nil)) (pg_name (i := 3) sc_law_below.nd rfl (by first | exact Or.inl rfl | exact Or.inr rfl)) (pss_cons (ps_set (i := 4) sc_law_below.nd rfl (by first | exact Or.inl rfl | exact Or.inr rfl) (pe_op op_sub (pe_op op_sub (pv 0) pe_int) (pv 3)))
      (pss_one (ps_for PassesOwn.never rfl (pi_or (kp_list K (pv 1)) (kp_tup K (pv 1))) (pg_name (i := 5) sc_law_below.nd rfl (by first | exact Or.inl rfl | exact Or.inr rfl)) (pss_one (ps_if (pt_cmpR (k_eq K hr.units) (pe_ix (k_ix K) (pv 5) pe_int (fun _ _ => rfl)) (pv 4) (nomark _)) (pss_one (ps_for PassesOwn.never rfl (pi_range1 rfl T.m_range (pa_cons (pv 0) pa_nil)) (pg_name (i := 6) sc_law_below.nd rfl (by first | exact Or.inl rfl | exact Or.inr rfl)) (pss_one (ps_if (k_tru K (pe_ix (k_ix K) (pe_ix (k_ix K) (pv 2) (pe_ix (k_ix K) (pv 5) pe_int (fun _ _ => rfl)) (fun _ _ => rfl)) (pv 6) (fun _ _ => rfl))) (pss_one (ps_asg pe_bl (pg_sub (pe_ix (k_ix K) (pv 2) (pv 4) (fun _ _ => rfl)) (pv 6) set_list))) pss_nil)))) pss_nil))))))
      (pss_one (ps_ret (pv 2))))), p_bodyF h fun ms b hf hp => ?_⟩)
  unfold f_law_below at hf
  split at hf
  rotate_right
  · cases hf
  · rename_i n es
    cases hf
    obtain ⟨N, A, rfl, hN, rfl, hR, hz⟩ := (show ∃ (N : Nat) (A : List (Int × Int)), n = N ∧ N ≤ 300 ∧ es = A.map prE ∧ Rising N A ∧ A.length ≤ 100000 from hp)
    have zl : sizeLine = 16777216 := sizeLine_eq
    row_hasAny px
    refine p_lcO (fun _ i acc => acc = (List.range i).map fun a => rowB N (fun b => decide (a = b))) ?_
    row_hasAny px
    refine ⟨by rw [rng_len]; omega, rfl, ?_, ?_⟩
    · rintro i x acc hx rfl
      obtain ⟨hi, rfl⟩ := rng_at hx
      row_hasAny px
      refine p_lc (fun _ j acc => acc = (List.range j).map fun b => .bl (decide (i = b))) ?_
      row_hasAny px
      refine ⟨by rw [rng_len]; omega, rfl, ?_, ?_⟩
      · rintro j x acc hx rfl
        obtain ⟨hj, rfl⟩ := rng_at hx
        row_hasAny px
        refine ⟨rfl, _, rfl, ?_⟩
        rw [List.range_succ, List.map_append]
        have e : decide (0 + (i : Int) = 0 + (j : Int)) = decide (i = j) := decide_eq_decide.mpr (by omega)
        rw [e]; rfl
      · rintro acc rfl
        rw [rng_len]
        refine ⟨rfl, _, rfl, ?_⟩
        rw [List.range_succ, List.map_append]; rfl
    rintro q bs acc rfl
    rw [rng_len]
    have e0 : ((List.range (N : Int).toNat).map fun a => rowB N (fun b => decide (a = b))) = tab N (fun a b => decide (a = b)) := rfl
    rw [e0]
    row_hasAny px
    refine q_for (fun L k ρ => ∃ (f : Nat → Nat → Bool) (x y z u : M), L.length = N ∧ ρ = [.sh (.int N), .sh (.lst (A.map prE)), .o2 q bs (tab N f), x, y, z, u] ∧ (∀ a b : Nat, a < N → b < N → (f a b = true ↔ if N - k ≤ a then Rch A a b else a = b))) ?_
    row_hasAny px
    refine ⟨⟨_, _, _, _, _, by rw [rng_len]; omega, rfl, fun a b ha hb => ?_⟩, ?_, ?_⟩
    · rw [if_neg (by omega), decide_eq_true_eq]
    · rintro k x ρ hx ⟨f, x1, y1, z1, u1, hL, rfl, hf⟩
      obtain ⟨hk, rfl⟩ := rng_at hx
      have hkN : k < N := by omega
      obtain ⟨a0, ha0⟩ : ∃ a0, a0 = N - 1 - k := ⟨_, rfl⟩
      have ea : (N : Int) - 1 - (0 + (k : Int)) = (a0 : Int) := by omega
      row_hasAny px
      rw [ea]
      refine q_for (fun L j ρ => ∃ (f : Nat → Nat → Bool) (y z : M), L = A.map prE ∧ ρ = [.sh (.int N), .sh (.lst (A.map prE)), .o2 q bs (tab N f), .sh (.int (0 + (k : Int))), .sh (.int a0), y, z] ∧ (∀ a b : Nat, a < N → b < N → (f a b = true ↔ if a0 < a then Rch A a b else if a = a0 then (a = b ∨ ∃ c, ((a : Int), c) ∈ A.take j ∧ Rch A c b) else a = b))) ?_
      row_hasAny px
      refine p_iseq rfl rfl trivial ?_
      refine ⟨⟨f, _, _, rfl, rfl, fun a b ha hb => ?_⟩, ?_, ?_⟩
      · rw [hf a b ha hb]
        by_cases e1 : a0 < a
        · rw [if_pos e1, if_pos (by omega)]
        · rw [if_neg e1, if_neg (by omega)]
          by_cases e2 : a = a0
          · rw [if_pos e2]; simp
          · rw [if_neg e2]
      · rintro j x ρ hx2 ⟨f, y2, z2, hL2, rfl, hf⟩
        rw [hL2, List.getElem?_map] at hx2
        cases hq : A[j]? with
        | none => rw [hq] at hx2; cases hx2
        | some p =>
          rw [hq] at hx2
          cases Option.some.inj hx2
          have hp := hR p (List.mem_of_getElem? hq)
          have htk : A.take (j + 1) = A.take j ++ [p] := by
            rw [List.take_add_one, hq]; rfl
          rw [show prE p = Pl.E.tup [.int p.1, .int p.2] from rfl]
          row_hasAny px
          refine if_d (fun e1 => ?_) (fun e1 => ?_)
          · row_hasAny px
            obtain ⟨c0, hc0⟩ := Int.eq_ofNat_of_zero_le (show 0 ≤ p.2 by omega)
            have hca : a0 < c0 := by omega
            have hcN : c0 < N := by omega
            refine q_for (fun L i ρ => ∃ (f : Nat → Nat → Bool) (z : M), L.length = N ∧ ρ = [.sh (.int N), .sh (.lst (A.map prE)), .o2 q bs (tab N f), .sh (.int (0 + (k : Int))), .sh (.int a0), .sh (.tup [.int p.1, .int p.2]), z] ∧ (∀ a b : Nat, a < N → b < N → (f a b = true ↔ if a0 < a then Rch A a b else if a = a0 then ((a = b ∨ ∃ c, ((a : Int), c) ∈ A.take j ∧ Rch A c b) ∨ (b < i ∧ Rch A c0 b)) else a = b))) ?_
            row_hasAny px
            refine ⟨⟨f, _, by rw [rng_len]; omega, rfl, fun a b ha hb => ?_⟩, ?_, ?_⟩
            · rw [hf a b ha hb]
              by_cases e3 : a0 < a
              · rw [if_pos e3, if_pos e3]
              · rw [if_neg e3, if_neg e3]
                by_cases e2 : a = a0
                · rw [if_pos e2, if_pos e2]; simp
                · rw [if_neg e2, if_neg e2]
            · rintro i x ρ hx3 ⟨f, z3, hL3, rfl, hf⟩
              obtain ⟨hi, rfl⟩ := rng_at hx3
              have hiN : i < N := by omega
              row_hasAny px
              refine ⟨p.2, c0, rfl, rfl, by rw [tab_len, hc0]; exact ixN_nat (by omega) (by omega), by rw [tab_len]; exact hcN, ?_⟩
              row_hasAny px
              refine ⟨0 + (i : Int), _, .bl (f c0 i), rfl, rfl, tab_at hcN, by rw [Int.zero_add]; exact atI_nat' (rowB_at hiN), ?_⟩
              row_hasAny px
              have hfc : f c0 i = true ↔ Rch A c0 i := by rw [hf c0 i hcN hiN, if_pos hca]
              have ha0N : a0 < N := by omega
              cases hv : f c0 i with
              | true =>
                row_hasAny px
                refine ⟨a0, a0, rfl, rfl, by rw [tab_len]; exact ixN_nat (by omega) (by omega), by rw [tab_len]; exact ha0N, ?_⟩
                row_hasAny px
                refine ⟨0 + (i : Int), _, i, rfl, rfl, tab_at ha0N, by rw [rowB_len, Int.zero_add]; exact ixN_nat (by omega) (by omega), ?_⟩
                rw [tab_set]
                refine ⟨_, _, hL3, rfl, fun a b ha hb => ?_⟩
                have hri := hfc.mp hv
                by_cases e3 : a = a0 ∧ b = i
                · obtain ⟨rfl, rfl⟩ := e3
                  rw [if_pos ⟨rfl, rfl⟩, if_neg (by omega), if_pos rfl]
                  exact ⟨fun _ => .inr ⟨by omega, hri⟩, fun _ => rfl⟩
                · rw [if_neg e3, hf a b ha hb]
                  by_cases e4 : a0 < a
                  · rw [if_pos e4, if_pos e4]
                  · rw [if_neg e4, if_neg e4]
                    by_cases e5 : a = a0
                    · rw [if_pos e5, if_pos e5]
                      constructor
                      · rintro (h | ⟨h, h'⟩)
                        · exact .inl h
                        · exact .inr ⟨by omega, h'⟩
                      · rintro (h | ⟨h, h'⟩)
                        · exact .inl h
                        · exact .inr ⟨by omega, h'⟩
                    · rw [if_neg e5, if_neg e5]
              | false =>
                row_hasAny px
                refine ⟨f, _, hL3, rfl, fun a b ha hb => ?_⟩
                rw [hf a b ha hb]
                by_cases e4 : a0 < a
                · rw [if_pos e4, if_pos e4]
                · rw [if_neg e4, if_neg e4]
                  by_cases e5 : a = a0
                  · rw [if_pos e5, if_pos e5]
                    constructor
                    · rintro (h | ⟨h, h'⟩)
                      · exact .inl h
                      · exact .inr ⟨by omega, h'⟩
                    · rintro (h | ⟨h, h'⟩)
                      · exact .inl h
                      · rcases Nat.lt_or_ge b i with q1 | q1
                        · exact .inr ⟨q1, h'⟩
                        · have e6 : b = i := by omega
                          subst e6
                          rw [hfc.mpr h'] at hv
                          cases hv
                  · rw [if_neg e5, if_neg e5]
            · rintro ρ ⟨f, z3, hL3, rfl, hf⟩
              row_hasAny px
              refine ⟨f, _, _, hL2, rfl, fun a b ha hb => ?_⟩
              rw [hf a b ha hb]
              by_cases e4 : a0 < a
              · rw [if_pos e4, if_pos e4]
              · rw [if_neg e4, if_neg e4]
                by_cases e5 : a = a0
                · rw [if_pos e5, if_pos e5, htk, hL3]
                  constructor
                  · rintro ((h | ⟨c, h, h'⟩) | ⟨h, h'⟩)
                    · exact .inl h
                    · exact .inr ⟨c, List.mem_append_left _ h, h'⟩
                    · refine .inr ⟨p.2, List.mem_append_right _ (List.mem_singleton.mpr ?_), by rw [hc0]; exact h'⟩
                      exact Prod.ext (by simp only; omega) rfl
                  · rintro (h | ⟨c, h, h'⟩)
                    · exact .inl (.inl h)
                    · rcases List.mem_append.mp h with z | z
                      · exact .inl (.inr ⟨c, z, h'⟩)
                      · have e7 := List.mem_singleton.mp z
                        have e8 : c = p.2 := congrArg Prod.snd e7
                        rw [e8, hc0] at h'
                        exact .inr ⟨hb, h'⟩
                · rw [if_neg e5, if_neg e5]
          · row_hasAny px
            refine ⟨f, _, _, hL2, rfl, fun a b ha hb => ?_⟩
            rw [hf a b ha hb]
            by_cases e4 : a0 < a
            · rw [if_pos e4, if_pos e4]
            · rw [if_neg e4, if_neg e4]
              by_cases e5 : a = a0
              · rw [if_pos e5, if_pos e5, htk]
                constructor
                · rintro (h | ⟨c, h, h'⟩)
                  · exact .inl h
                  · exact .inr ⟨c, List.mem_append_left _ h, h'⟩
                · rintro (h | ⟨c, h, h'⟩)
                  · exact .inl h
                  · rcases List.mem_append.mp h with z | z
                    · exact .inr ⟨c, z, h'⟩
                    · have e7 := List.mem_singleton.mp z
                      have e8 : (a : Int) = p.1 := congrArg Prod.fst e7
                      exact absurd (by omega) e1
              · rw [if_neg e5, if_neg e5]
      · rintro ρ ⟨f, y2, z2, hL2, rfl, hf⟩
        rw [List.length_map, List.take_length] at hf
        row_hasAny px
        refine ⟨f, _, _, _, _, hL, rfl, fun a b ha hb => ?_⟩
        rw [hf a b ha hb]
        by_cases e1 : a0 < a
        · rw [if_pos e1, if_pos (by omega)]
        · rw [if_neg e1]
          by_cases e2 : a = a0
          · rw [if_pos e2, if_pos (by omega), Rch.cases]
            constructor
            · rintro (h | h)
              · exact .inl (by omega)
              · exact .inr h
            · rintro (h | h)
              · exact .inl (by omega)
              · exact .inr h
          · rw [if_neg e2, if_neg (by omega)]
    · rintro ρ ⟨f, x1, y1, z1, u1, hL, rfl, hf⟩
      row_hasAny px
      refine p_varW2 rfl ?_
      intro N' A' h1 h2
      have e1 : N = N' := by omega
      subst e1
      have e2 := prE_inj h2
      subst e2
      refine ⟨f, rfl, fun a b ha hb => ?_⟩
      rw [hf a b ha hb, hL, if_pos (by omega)]

/-! ### _law_covers -/
/-- the pairs told by a table, ascending -/
def prsR (f : Nat → Nat → Bool) (a m : Nat) : List (Int × Int) := (((List.range m).map (a + 1 + ·)).filter (f a)).map fun b : Nat => ((a : Int), (b : Int))
def prsL (n : Nat) (f : Nat → Nat → Bool) (m : Nat) : List (Int × Int) := (List.range m).flatMap fun a => prsR f a (n - (a + 1))
theorem prsR_len (f : Nat → Nat → Bool) (a m : Nat) : (prsR f a m).length ≤ m := by
  unfold prsR
  rw [List.length_map]
  exact Nat.le_trans (List.length_filter_le ..) (by rw [List.length_map, List.length_range]; exact Nat.le_refl _)
theorem prsL_len (n : Nat) (f : Nat → Nat → Bool) (m : Nat) : (prsL n f m).length ≤ m * n := by
  have := flat_lenB (l := List.range m) (f := fun a => prsR f a (n - (a + 1))) (c := n) fun u _ => Nat.le_trans (prsR_len f u _) (Nat.sub_le ..)
  rwa [List.length_range] at this
theorem prsL_succ (n : Nat) (f : Nat → Nat → Bool) (m : Nat) : prsL n f (m + 1) = prsL n f m ++ prsR f m (n - (m + 1)) := by
  unfold prsL
  rw [List.range_succ, List.flatMap_append]
  congr 1
  exact List.append_nil _
theorem mem_prsL {n m : Nat} {f : Nat → Nat → Bool} {q : Int × Int} : q ∈ prsL n f m ↔ ∃ a b : Nat, a < m ∧ a < b ∧ b < n ∧ f a b = true ∧ q = ((a : Int), (b : Int)) := by
  unfold prsL prsR
  simp only [List.mem_flatMap, List.mem_map, List.mem_filter, List.mem_range]
  constructor
  · rintro ⟨a, ha, b, ⟨⟨k, hk, rfl⟩, hb⟩, rfl⟩
    exact ⟨a, a + 1 + k, ha, by omega, by omega, hb, rfl⟩
  · rintro ⟨a, b, ha, hab, hb, hf, rfl⟩
    exact ⟨a, ha, b, ⟨⟨b - (a + 1), by omega, by omega⟩, hf⟩, rfl⟩
theorem tab_inj3 {n m : Nat} {f g : Nat → Nat → Bool} (h : (tab n f).map Pl.E.lst = (tab m g).map Pl.E.lst) : n = m ∧ ∀ a b, a < n → b < n → f a b = g a b := by
  have hl : n = m := by
    have := congrArg List.length h
    rwa [List.length_map, List.length_map, tab_len, tab_len] at this
  subst hl
  have h2 : tab n f = tab n g := (List.map_inj_right fun _ _ e => Pl.E.lst.inj e).mp h
  refine ⟨rfl, fun a b ha hb => ?_⟩
  have h3 := congrArg (fun l => l[a]?) h2
  rw [tab_at ha, tab_at ha] at h3
  have h4 := congrArg (fun l => l[b]?) (Option.some.inj h3)
  rw [rowB_at hb, rowB_at hb] at h4
  exact Pl.E.bl.inj (Option.some.inj h4)
theorem prsL_congr {n : Nat} {f g : Nat → Nat → Bool} (h : ∀ a b, a < n → b < n → f a b = g a b) : prsL n f n = prsL n g n := by
  unfold prsL
  refine flatMap_congr2 fun a ha => ?_
  have ha := List.mem_range.mp ha
  unfold prsR
  congr 1
  refine List.filter_congr fun b hb => ?_
  obtain ⟨k, hk, rfl⟩ := List.mem_map.mp hb
  have := List.mem_range.mp hk
  exact h _ _ ha (by omega)
/-- b next above a, by a table -/
def covF (f : Nat → Nat → Bool) (a b : Nat) : Bool := f a b && (((List.range (b - (a + 1))).map (a + 1 + ·)).all fun c => !(f a c && f c b))
def f_law_covers : List M → Option Br
  | [.sh (.lst ts)] => some (brs (∃ (n : Nat) (f : Nat → Nat → Bool), ts = (tab n f).map Pl.E.lst ∧ n ≤ 200) fun R => ∀ (n : Nat) (f : Nat → Nat → Bool), ts = (tab n f).map Pl.E.lst → R (.ow ((prsL n (covF f) n).map prE)))
  | _ => none
theorem covF_congr {n : Nat} {f g : Nat → Nat → Bool} (h : ∀ a b, a < n → b < n → f a b = g a b) {a b : Nat} (ha : a < n) (hb : b < n) : covF f a b = covF g a b := by
  unfold covF
  rw [h a b ha hb]
  congr 1
  rw [Bool.eq_iff_iff, List.all_eq_true, List.all_eq_true]
  refine forall_congr' fun c => forall_congr' fun hc => ?_
  obtain ⟨k, hk, rfl⟩ := List.mem_map.mp hc
  have := List.mem_range.mp hk
  rw [h a _ ha (by omega), h _ b (by omega) hb]
theorem u_covers {n : Nat} {f : Nat → Nat → Bool} {R : M → Prop} (hn : n ≤ 200) (k : R (.ow ((prsL n (covF f) n).map prE))) : ∃ b, f_law_covers [.sh (.lst ((tab n f).map .lst))] = some b ∧ b.pre ∧ (∀ cls xd, ¬ b.xp cls xd) ∧ ∀ r, b.post r → R r :=
  cbS rfl ⟨n, f, rfl, hn⟩ fun n' f' h => by
    obtain ⟨rfl, h2⟩ := tab_inj3 h
    rw [← prsL_congr fun a b ha hb => covF_congr h2 ha hb]
    exact k
theorem up_asc (a m : Nat) : ((List.range m).map (a + 1 + ·)).Pairwise (· < ·) := List.pairwise_map.mpr (List.pairwise_lt_range.imp fun {i j} (h : i < j) => (show a + 1 + i < a + 1 + j by omega))
theorem prsL_asc (n : Nat) (f : Nat → Nat → Bool) (m : Nat) : (prsL n f m).Pairwise plt := by
  unfold prsL
  refine List.pairwise_flatMap.mpr ⟨fun u _ => List.pairwise_map.mpr (((up_asc u _).filter _).imp fun {i j} (h : i < j) => Or.inr ⟨rfl, by show (i : Int) < (j : Int); omega⟩), List.pairwise_lt_range.imp fun {u v} h x hx y hy => ?_⟩
  obtain ⟨_, _, rfl⟩ := List.mem_map.mp hx
  obtain ⟨_, _, rfl⟩ := List.mem_map.mp hy
  exact .inl (by show (_ : Int) < _; omega)
/-- the covers a table tells are the order's -/
theorem cov_tab {rs : List Nat} (O : OrdT rs) : prsL rs.length (covF (bt rs)) rs.length = covL rs rs.length := by
  refine plt_one (prsL_asc _ _ _) (cov_nodup _) ((List.perm_ext_iff_of_nodup (plt_nd (prsL_asc _ _ _)) (plt_nd (cov_nodup _))).mpr fun q => ?_)
  rw [mem_prsL, mem_cov]
  constructor
  · rintro ⟨a, b, ha, hab, hb, hc, rfl⟩
    unfold covF at hc
    obtain ⟨h1, h2⟩ := Bool.and_eq_true_iff.mp hc
    have h2 := List.all_eq_true.mp h2
    refine ⟨a, b, ha, (mem_next O).mpr ⟨h1, by omega, fun c g1 g2 g3 => ?_⟩, rfl⟩
    have l1 := (O.rng a c g1).1
    have l2 := (O.rng c b g3).1
    refine Classical.byContradiction fun hne => ?_
    have := h2 c (List.mem_map.mpr ⟨c - (a + 1), List.mem_range.mpr (by omega), by omega⟩)
    rw [g1, g3] at this
    cases this
  · rintro ⟨a, b, ha, hb, rfl⟩
    obtain ⟨h1, h2, h3⟩ := (mem_next O).mp hb
    have l1 := O.rng a b h1
    refine ⟨a, b, ha, by omega, l1.2, ?_, rfl⟩
    unfold covF
    rw [h1, Bool.true_and, List.all_eq_true]
    intro c hc
    obtain ⟨k, hk, rfl⟩ := List.mem_map.mp hc
    have := List.mem_range.mp hk
    cases g1 : bt rs a (a + 1 + k) with
    | false => rfl
    | true =>
      cases g2 : bt rs (a + 1 + k) b with
      | false => rfl
      | true =>
        have := h3 _ g1 (by omega) g2
        omega
theorem ok_law_covers (T : Txt K mg a d) : FnOk P w K mg base CX0 1 a.law_covers d.law_covers ["below"] (spC (ctF f_law_covers)) := by
  refine T.F_law_covers.ok sc_law_covers (fun vs H Q E h => spF_len (fun ms b hf => by unfold f_law_covers at hf; split at hf <;> first | rfl | cases hf) h) (fun cdv A outer s H vs Q E hr h => ⟨_, (pss_cons (ps_set (i := 1) sc_law_covers.nd rfl (by first | exact Or.inl rfl | exact Or.inr rfl) (pe_lst pa_nil))
      (pss_cons (ps_for PassesOwn.never rfl (pi_range1 rfl T.m_range (pa_cons (pe_callB (k_len K) (by rfl) T.m_len bt_len (pa_cons (pv 0) pa_nil)) pa_nil)) (pg_name (i := 2) sc_law_covers.nd rfl (by first | exact Or.inl rfl | exact Or.inr rfl)) (pss_one (ps_for PassesOwn.never rfl (pi_range2 rfl T.m_range (pa_cons (pe_op (k_add K) (pv 2) pe_int) (pa_cons (pe_callB (k_len K) (by rfl) T.m_len bt_len (pa_cons (pv 0) pa_nil)) pa_nil))) (pg_name (i := 3) sc_law_covers.nd rfl (by first | exact Or.inl rfl | exact Or.inr rfl)) (pss_one (ps_if (PW.pt (pw_and (k_tru K (pe_ix (k_ix K) (pe_ix (k_ix K) (pv 0) (pv 2) (fun _ _ => rfl)) (pv 3) (fun _ _ => rfl))) (pw_and1 (pt_not (k_tru K (pe_lc (own := [("c", 4)]) (g := gName 4) rfl sc_law_covers.nd (pi_range2 rfl T.m_range (pa_cons (pe_op (k_add K) (pv 2) pe_int) (pa_cons (pv 3) pa_nil))) (blkOk_by (N := ["below", "covers", "a", "b", "c"]) (sc := defScope s_law_covers) (by decide +kernel)) (fun _ _ _ _ _ => (pg_name (i := 4) sc_law_covers.nd rfl (by first | exact Or.inl rfl | exact Or.inr rfl))) (fun _ _ _ _ _ => pts_one (PW.pt (pw_and (k_tru K (pe_ix (k_ix K) (pe_ix (k_ix K) (pv 0) (pv 2) (fun _ _ => rfl)) (pv 4) (fun _ _ => rfl))) (pw_and1 (k_tru K (pe_ix (k_ix K) (pe_ix (k_ix K) (pv 0) (pv 4) (fun _ _ => rfl)) (pv 3) (fun _ _ => rfl))))))) (fun _ _ _ _ _ => (pv 4)))))))) (pss_one (ps_expr (pe_bm PySem.F.plainAttrs_list PySem.F.slot_list_append PySem.F.type_list_append mt_append (pv 1) (pa_cons (pe_tup (pa_cons (pv 2) (pa_cons (pv 3) pa_nil))) pa_nil)))) pss_nil)))))
      (pss_one (ps_ret (pv 1))))), p_bodyF h fun ms b hf hp => ?_⟩)
  unfold f_law_covers at hf
  split at hf
  rotate_right
  · cases hf
  · rename_i ts
    cases hf
    obtain ⟨n, f, rfl, hn⟩ := (show ∃ (n : Nat) (f : Nat → Nat → Bool), ts = (tab n f).map Pl.E.lst ∧ n ≤ 200 from hp)
    clear hp
    have zl : sizeLine = 16777216 := sizeLine_eq
    have hTl : ((tab n f).map Pl.E.lst).length = n := by rw [List.length_map, tab_len]
    have fin : ∀ R : M → Prop, (∀ (n' : Nat) (f' : Nat → Nat → Bool), (tab n f).map Pl.E.lst = (tab n' f').map Pl.E.lst → R (.ow ((prsL n' (covF f') n').map prE))) → R (.ow ((prsL n (covF f) n).map prE)) := fun R k => k n f rfl
    have row : ∀ i, i < n → ((tab n f).map Pl.E.lst)[i]? = some (.lst (rowB n (f i))) := fun i hi => by rw [List.getElem?_map, tab_at hi]; rfl
    row_hasAny pu
    refine q_for (fun L i ρ => L.length = n ∧ ∃ z2 z3 : M, ρ = [.sh (.lst ((tab n f).map Pl.E.lst)), .ow ((prsL n (covF f) i).map prE), z2, z3, .no]) ?_
    row_hasAny pu
    refine ⟨⟨by rw [rng_len, hTl]; omega, _, _, rfl⟩, ?_, ?_⟩
    · rintro a x ρ hx ⟨hL, z2, z3, rfl⟩
      have ha := (List.getElem?_eq_some_iff.mp hx).1
      rw [hL] at ha
      obtain ⟨_, rfl⟩ := rng_at hx
      rw [Int.zero_add, prsL_succ]
      have hpl := prsL_len n (covF f) a
      have hpm : a * n ≤ 200 * 200 := Nat.mul_le_mul (by omega) (by omega)
      generalize prsL n (covF f) a = P at hpl ⊢
      row_hasAny pu
      refine q_for (fun L j ρ => L.length = n - (a + 1) ∧ ∃ z3 : M, ρ = [.sh (.lst ((tab n f).map Pl.E.lst)), .ow ((P ++ prsR (covF f) a j).map prE), .sh (.int (a : Int)), z3, .no]) ?_
      row_hasAny pu
      refine ⟨⟨by rw [rng_len, hTl]; omega, _, by rw [show prsR (covF f) a 0 = [] from rfl, List.append_nil]; rfl⟩, ?_, ?_⟩
      · rintro j x ρ hx ⟨hL2, z3, rfl⟩
        have hj := (List.getElem?_eq_some_iff.mp hx).1
        rw [hL2] at hj
        obtain ⟨_, rfl⟩ := rng_at hx
        have ej : ((a : Int) + 1 + (j : Int)) = ((a + 1 + j : Nat) : Int) := by omega
        rw [ej]
        obtain ⟨b, hb⟩ : ∃ b, b = a + 1 + j := ⟨_, rfl⟩
        have hrl := prsR_len (covF f) a j
        have hstep : prsR (covF f) a (j + 1) = prsR (covF f) a j ++ (if covF f a b = true then [((a : Int), (b : Int))] else []) := by
          rw [hb]
          unfold prsR
          rw [List.range_succ, List.map_append, List.filter_append, List.map_append]
          congr 1
          cases h : covF f a (a + 1 + j) with
          | true => rw [if_pos rfl, List.map_cons, List.map_nil, List.filter_cons_of_pos h]; rfl
          | false => rw [if_neg Bool.false_ne_true, List.map_cons, List.map_nil, List.filter_cons_of_neg (by rw [h]; exact Bool.false_ne_true)]; rfl
        rw [hstep, ← hb]
        have hbn : b < n := by omega
        have hcv : covF f a b = (f a b && (((List.range (b - (a + 1))).map (a + 1 + ·)).filter fun c => f a c && f c b).isEmpty) := by
          unfold covF
          congr 1
          rw [Bool.eq_iff_iff, List.isEmpty_iff, List.filter_eq_nil_iff, List.all_eq_true]
          refine forall_congr' fun c => forall_congr' fun _ => ?_
          cases f a c && f c b <;> simp
        generalize prsR (covF f) a j = G at hrl ⊢
        have t2 : (rowB n (f a))[b]? = some (.bl (f a b)) := rowB_at hbn
        row_hasAny pu
        refine v_ixL (atI_nat' (row a ha)) ?_
        row_hasAny pu
        refine v_ixL (atI_nat' t2) ?_
        have no : covF f a b = false → ∀ z : M, ∃ z3 : M, [M.sh (.lst ((tab n f).map Pl.E.lst)), .ow ((P ++ G).map prE), .sh (.int (a : Int)), .sh (.int (b : Int)), .no] = [M.sh (.lst ((tab n f).map Pl.E.lst)), .ow ((P ++ (G ++ (if covF f a b = true then [((a : Int), (b : Int))] else []))).map prE), .sh (.int (a : Int)), z3, .no] := fun h z => by
          rw [h, if_neg Bool.false_ne_true, List.append_nil]
          exact ⟨_, rfl⟩
        cases h : f a b with
        | false =>
          rw [h, Bool.false_and] at hcv
          row_hasAny pu
          exact ⟨hL2, no hcv .no⟩
        | true =>
          rw [h, Bool.true_and] at hcv
          row_hasAny pu
          refine p_lc (fun L q acc => L.length = b - (a + 1) ∧ acc = (((List.range q).map (a + 1 + ·)).filter fun c => f a c && f c b).map natE) ?_
          row_hasAny pu
          refine ⟨by rw [rng_len]; omega, ⟨by rw [rng_len]; omega, rfl⟩, ?_, ?_⟩
          · rintro q x acc hx ⟨hL3, rfl⟩
            have hq := (List.getElem?_eq_some_iff.mp hx).1
            rw [hL3] at hq
            obtain ⟨_, rfl⟩ := rng_at hx
            rw [show ((a : Int) + 1 + (q : Int)) = ((a + 1 + q : Nat) : Int) by omega, List.range_succ, List.map_append (f := (a + 1 + ·)), List.filter_append, List.map_append (f := natE)]
            have hcn : a + 1 + q < n := by omega
            row_hasAny pu
            refine v_ixL (atI_nat' (row a ha)) ?_
            row_hasAny pu
            refine v_ixL (atI_nat' (rowB_at hcn)) ?_
            cases h1 : f a (a + 1 + q) with
            | false =>
              row_hasAny pu
              exact ⟨rfl, hL3, by rw [List.map_cons, List.map_nil, List.filter_cons_of_neg (by rw [h1]; exact Bool.false_ne_true)]; simp⟩
            | true =>
              row_hasAny pu
              refine v_ixL (atI_nat' (row _ hcn)) ?_
              row_hasAny pu
              refine v_ixL (atI_nat' (rowB_at hbn)) ?_
              cases h2 : f (a + 1 + q) b with
              | false =>
                row_hasAny pu
                exact ⟨rfl, hL3, by rw [List.map_cons, List.map_nil, List.filter_cons_of_neg (by rw [h1, h2]; exact Bool.false_ne_true)]; simp⟩
              | true =>
                row_hasAny pu
                exact ⟨rfl, _, rfl, hL3, by rw [List.map_cons, List.map_nil, List.filter_cons_of_pos (by rw [h1, h2]; rfl)]; rfl⟩
          rintro acc ⟨hL3, rfl⟩
          rw [hL3]
          refine ⟨_, _, rfl, rfl, ?_⟩
          rw [List.isEmpty_map, ← hcv]
          cases hc : covF f a b with
          | false =>
            row_hasAny pu
            rw [hc] at no
            exact ⟨hL2, no rfl .no⟩
          | true =>
            row_hasAny pu
            refine ⟨_, _, rfl, rfl, by rw [List.length_map, List.length_append]; omega, hL2, .sh (.int (b : Int)), ?_⟩
            rw [if_pos rfl, ← List.append_assoc, List.map_append (l₁ := P ++ G)]
            rfl
      · rintro ρ ⟨hL2, z3, rfl⟩
        rw [hL2]
        first | exact ⟨hL, _, _, rfl⟩ | exact ⟨rfl, _, _, rfl⟩
    · rintro ρ ⟨hL, z2, z3, rfl⟩
      rw [hL]
      row_hasAny pu
      exact fin

/-! ### _law_is_integer -/
def f_law_is_integer (K : PySem.W.Frag) : List M → Option Br
  | [.sh e] => some (brp (kn K e) (.sh (.bl (isIntE e))))
  | _ => none
theorem ok_law_is_integer (T : Txt K mg a d) : FnOk P w K mg base CX0 1 a.law_is_integer d.law_is_integer ["value"] (spC (ctF (f_law_is_integer K))) := by
  refine T.F_law_is_integer.ok sc_law_is_integer (fun vs H Q E h => spF_len (fun ms b hf => by unfold f_law_is_integer at hf; split at hf <;> first | rfl | cases hf) h) (fun cdv A outer s H vs Q E hr h => ⟨_, (pss_one (ps_ret (pe_and (pe_callB (k_isi K) (by rfl) T.m_isinstance bt_isinstance (pa_cons (pv 0) (pa_cons (pe_bltn (v := .ty "int") rfl T.m_int bt_int rfl) pa_nil))) (pe_one (pe_not (pe_callB (k_isi K) (by rfl) T.m_isinstance bt_isinstance (pa_cons (pv 0) (pa_cons (pe_bltn (v := .ty "bool") rfl T.m_bool bt_bool rfl) pa_nil)))))))), p_bodyF h fun ms b hf hp => ?_⟩)
  unfold f_law_is_integer at hf
  split at hf
  rotate_right
  · cases hf
  · rename_i e
    cases hf
    cases e with
    | pr P =>
      obtain rfl : P = empP K := hp
      row_hasAny px
      exact rfl
    | ob C fs => 
      have hp : InsK K C := hp
      row_hasAny px
      exact rfl
    | _ => row_hasAny px <;> exact rfl

/-! ### _law_same -/
--@level 74
--@arg 72
--@hint list(told.keys()) => =(pe_listKeys rfl (pv 0) T.m_list)
--@hint list(due.keys()) => =(pe_listKeys rfl (pv 1) T.m_list)
--@hint list(told.values()) => =(pe_listValues rfl (pv 0) T.m_list)
--@hint list(due.values()) => =(pe_listValues rfl (pv 1) T.m_list)
--@used m list
/-- two values that are alike: True -/
def sp_law_same (n : Nat) : Sp := fun vs H Q _ => ∃ (t u : V) (d : D), vs = [t, u] ∧ Dv H t d ∧ Dv H u d ∧ d.depth < n ∧ ∀ H', Same H H' → Q (.bl true) H'
theorem ok_law_same_old (T : Txt K mg a d) : ∀ n : Nat, FnOk P w K mg base CX0 (n + 2) a.law_same d.law_same ["told", "due"] (sp_law_same n)
  | 0 => by
    refine FnOk.mono (T.F_law_same.ok (k := 1) sc_law_same (fun vs H Q E h => ?_) (fun cdv A outer s H vs Q E hr h => ?_)) (Nat.le_refl _)
    all_goals
      obtain ⟨t, u, d, _, _, _, h, _⟩ := h
      exact absurd h (Nat.not_lt_zero _)
  | n + 1 => by
    have IH := ok_law_same_old T n
    refine T.F_law_same.ok sc_law_same (fun vs H Q E h => ?_) (fun cdv A outer s H vs Q E hr h => ⟨_, (pss_cons (ps_if (pt_cmpR op_isN (pv 1) pe_non (nomark _)) (pss_one (ps_ret (pe_cmpR op_isN (pv 0) pe_non (nomark _)))) pss_nil)
      (pss_cons (ps_if (pt_val (pe_callB (k_isi K) (by rfl) T.m_isinstance bt_isinstance (pa_cons (pv 1) (pa_cons (pe_bltn (v := .ty "bool") rfl T.m_bool bt_bool rfl) pa_nil)))) (pss_one (ps_ret (pe_and (pe_callB (k_isi K) (by rfl) T.m_isinstance bt_isinstance (pa_cons (pv 0) (pa_cons (pe_bltn (v := .ty "bool") rfl T.m_bool bt_bool rfl) pa_nil))) (pe_one (pe_cmpR (k_eq K hr.units) (pv 0) (pv 1) (nomark _)))))) pss_nil)
      (pss_cons (ps_if (pt_val (pe_callB (k_isi K) (by rfl) T.m_isinstance bt_isinstance (pa_cons (pv 1) (pa_cons (pe_bltn (v := .ty "int") rfl T.m_int bt_int rfl) pa_nil)))) (pss_one (ps_ret (pe_and (pe_call (ok_law_is_integer (P := P) T) (hr.mono (by omega)) rfl T.g_law_is_integer T.F_law_is_integer.kp T.b_law_is_integer .nil pass0 (pa_cons (pv 0) pa_nil)) (pe_one (pe_cmpR (k_eq K hr.units) (pv 0) (pv 1) (nomark _)))))) pss_nil)
      (pss_cons (ps_if (pt_val (pe_callB (k_isi K) (by rfl) T.m_isinstance bt_isinstance (pa_cons (pv 1) (pa_cons (pe_bltn (v := .ty "str") rfl T.m_str bt_str rfl) pa_nil)))) (pss_one (ps_ret (pe_and (pe_callB (k_isi K) (by rfl) T.m_isinstance bt_isinstance (pa_cons (pv 0) (pa_cons (pe_bltn (v := .ty "str") rfl T.m_str bt_str rfl) pa_nil))) (pe_one (pe_cmpR (k_eq K hr.units) (pv 0) (pv 1) (nomark _)))))) pss_nil)
      (pss_cons (ps_if (pt_val (pe_callB (k_isi K) (by rfl) T.m_isinstance bt_isinstance (pa_cons (pv 1) (pa_cons (pe_bltn (v := .ty "dict") rfl T.m_dict bt_dict rfl) pa_nil)))) (pss_cons (ps_if (PW.pt (pw_or (pt_not (pt_val (pe_callB (k_isi K) (by rfl) T.m_isinstance bt_isinstance (pa_cons (pv 0) (pa_cons (pe_bltn (v := .ty "dict") rfl T.m_dict bt_dict rfl) pa_nil))))) (pw_or1 (pt_not (pt_val (pe_call IH (hr.mono (by omega)) rfl T.g_law_same T.F_law_same.kp T.b_law_same .nil pass0 (pa_cons (pe_listKeys rfl (pv 0) T.m_list) (pa_cons (pe_listKeys rfl (pv 1) T.m_list) pa_nil)))))))) (pss_one (ps_ret pe_bl)) pss_nil)
      (pss_one (ps_ret (pe_call IH (hr.mono (by omega)) rfl T.g_law_same T.F_law_same.kp T.b_law_same .nil pass0 (pa_cons (pe_listValues rfl (pv 0) T.m_list) (pa_cons (pe_listValues rfl (pv 1) T.m_list) pa_nil)))))) pss_nil)
      (pss_cons (ps_if (pt_val (pe_callB (k_isi K) (by rfl) T.m_isinstance bt_isinstance (pa_cons (pv 1) (pa_cons (pe_bltn (v := .ty "list") rfl T.m_list bt_list rfl) pa_nil)))) (pss_one (ps_if (PW.pt (pw_or (pt_not (pt_val (pe_callB (k_isi K) (by rfl) T.m_isinstance bt_isinstance (pa_cons (pv 0) (pa_cons (pe_bltn (v := .ty "list") rfl T.m_list bt_list rfl) pa_nil))))) (pw_or1 (pt_cmpR (k_ne K hr.units) (pe_callB (k_len K) (by rfl) T.m_len bt_len (pa_cons (pv 0) pa_nil)) (pe_callB (k_len K) (by rfl) T.m_len bt_len (pa_cons (pv 1) pa_nil)) (nomark _))))) (pss_one (ps_ret pe_bl)) pss_nil)) (pss_one (ps_if (PW.pt (pw_or (pt_not (pt_val (pe_callB (k_isi K) (by rfl) T.m_isinstance bt_isinstance (pa_cons (pv 1) (pa_cons (pe_bltn (v := .ty "tuple") rfl T.m_tuple bt_tuple rfl) pa_nil))))) (pw_or (pt_not (pt_val (pe_callB (k_isi K) (by rfl) T.m_isinstance bt_isinstance (pa_cons (pv 0) (pa_cons (pe_bltn (v := .ty "tuple") rfl T.m_tuple bt_tuple rfl) pa_nil))))) (pw_or1 (pt_cmpR (k_ne K hr.units) (pe_callB (k_len K) (by rfl) T.m_len bt_len (pa_cons (pv 0) pa_nil)) (pe_callB (k_len K) (by rfl) T.m_len bt_len (pa_cons (pv 1) pa_nil)) (nomark _)))))) (pss_one (ps_ret pe_bl)) pss_nil)))
      (pss_cons (ps_for PassesOwn.never rfl (pi_range1 rfl T.m_range (pa_cons (pe_callB (k_len K) (by rfl) T.m_len bt_len (pa_cons (pv 1) pa_nil)) pa_nil)) (pg_name (i := 2) sc_law_same.nd rfl (by first | exact Or.inl rfl | exact Or.inr rfl)) (pss_one (ps_if (pt_not (pt_val (pe_call IH (hr.mono (by omega)) rfl T.g_law_same T.F_law_same.kp T.b_law_same .nil pass0 (pa_cons (pe_ix (k_ix K) (pv 0) (pv 2) (fun _ _ => rfl)) (pa_cons (pe_ix (k_ix K) (pv 1) (pv 2) (fun _ _ => rfl)) pa_nil))))) (pss_one (ps_ret pe_bl)) pss_nil)))
      (pss_one (ps_ret pe_bl))))))))), ?_⟩)
    · obtain ⟨t, u, d, rfl, _⟩ := h
      rfl
    · obtain ⟨t, u, d, rfl, ht, hu, hn, k⟩ := h
      cases d with
      | non =>
        obtain rfl : t = .non := id ht
        obtain rfl : u = .non := id hu
        row_hasAny sx
        exact k H (Same.refl H)
      | bl b =>
        obtain rfl : t = .bl b := id ht
        obtain rfl : u = .bl b := id hu
        row_hasAny sx
        rw [decide_eq_true rfl]
        exact k H (Same.refl H)
      | int i =>
        obtain rfl : t = .int i := id ht
        obtain rfl : u = .int i := id hu
        row_hasAny sx
        refine spC_call (es := [.int i]) ⟨_, _, rfl, rfl, rfl⟩ rfl trivial (fun _ _ z => z) fun v m H' s r hm => ?_
        obtain rfl : m = .sh (.bl true) := hm
        obtain rfl := r.bl
        row_hasAny sx
        rw [decide_eq_true rfl]
        exact k H' s
      | str x =>
        obtain rfl : t = .str x := id ht
        obtain rfl : u = .str x := id hu
        row_hasAny sx
        rw [decide_eq_true rfl]
        exact k H (Same.refl H)
      | lst ds =>
        obtain ⟨p, vs, rfl, hp, hl, hv⟩ := id ht
        obtain ⟨q, ws, rfl, hq, hm, hw⟩ := id hu
        row_hasAny sx
        have e1 : vs.length = ws.length := by rw [DvL.length hv, DvL.length hw]
        refine if_f (by rw [e1]; simp) ?_
        row_hasAny sx
        have hz : (ws.length : Int) < 2 ^ 62 := by
          have := Nat.lt_of_le_of_lt hm (show sizeLine < 2 ^ 62 by decide)
          omega
        refine i_rng1' ⟨by omega, hz⟩ ?_
        refine f_range (fun i σ H' => Same H H' ∧ ∃ z, σ = [some (.ref p), some (.ref q), z]) ⟨by row_hasAny sames, _, rfl⟩ ?_ ?_
        · rintro i σ H' hi ⟨sH, z, rfl⟩
          have hi2 : i < ds.length := by rw [← DvL.length hw]; simpa using hi
          obtain ⟨x, hx1, hx2⟩ := DvL.get hv (i := i) (List.getElem?_eq_getElem hi2)
          obtain ⟨y, hy1, hy2⟩ := DvL.get hw (i := i) (List.getElem?_eq_getElem hi2)
          have hx3 : atI vs (0 + (i : Int)) = some x := by rw [Int.zero_add]; exact atI_nat hx1
          have hy3 : atI ws (0 + (i : Int)) = some y := by rw [Int.zero_add]; exact atI_nat hy1
          row_hasAny sx
          refine r_ixL' (sH _ _ hp) hx3 ?_
          row_hasAny sx
          refine r_ixL' (sH _ _ hq) hy3 ?_
          row_hasAny sx
          have hd := depth_get (ds := ds) (i := i) (List.getElem?_eq_getElem hi2)
          have hn2 : 1 + D.depth.go ds < n + 1 := hn
          refine ⟨_, _, ds[i], rfl, hx2.mono sH, hy2.mono sH, by omega, fun H2 s2 => ?_⟩
          row_hasAny sx
          exact ⟨sH.trans s2, _, rfl⟩
        · rintro σ H' ⟨sH, z, rfl⟩
          row_hasAny sx
          exact k H' sH
      | tup ds =>
        obtain ⟨p, vs, rfl, hp, hl, hv⟩ := id ht
        obtain ⟨q, ws, rfl, hq, hm, hw⟩ := id hu
        row_hasAny sx
        have e1 : vs.length = ws.length := by rw [DvL.length hv, DvL.length hw]
        refine if_f (by rw [e1]; simp) ?_
        row_hasAny sx
        have hz : (ws.length : Int) < 2 ^ 62 := by
          have := Nat.lt_of_le_of_lt hm (show sizeLine < 2 ^ 62 by decide)
          omega
        refine i_rng1' ⟨by omega, hz⟩ ?_
        refine f_range (fun i σ H' => Same H H' ∧ ∃ z, σ = [some (.ref p), some (.ref q), z]) ⟨by row_hasAny sames, _, rfl⟩ ?_ ?_
        · rintro i σ H' hi ⟨sH, z, rfl⟩
          have hi2 : i < ds.length := by rw [← DvL.length hw]; simpa using hi
          obtain ⟨x, hx1, hx2⟩ := DvL.get hv (i := i) (List.getElem?_eq_getElem hi2)
          obtain ⟨y, hy1, hy2⟩ := DvL.get hw (i := i) (List.getElem?_eq_getElem hi2)
          have hx3 : atI vs (0 + (i : Int)) = some x := by rw [Int.zero_add]; exact atI_nat hx1
          have hy3 : atI ws (0 + (i : Int)) = some y := by rw [Int.zero_add]; exact atI_nat hy1
          row_hasAny sx
          refine r_ixT' (sH _ _ hp) hx3 ?_
          row_hasAny sx
          refine r_ixT' (sH _ _ hq) hy3 ?_
          row_hasAny sx
          have hd := depth_get (ds := ds) (i := i) (List.getElem?_eq_getElem hi2)
          have hn2 : 1 + D.depth.go ds < n + 1 := hn
          refine ⟨_, _, ds[i], rfl, hx2.mono sH, hy2.mono sH, by omega, fun H2 s2 => ?_⟩
          row_hasAny sx
          exact ⟨sH.trans s2, _, rfl⟩
        · rintro σ H' ⟨sH, z, rfl⟩
          row_hasAny sx
          exact k H' sH
      | dic ps =>
        obtain ⟨p, vs, rfl, hp, hl, hv⟩ := id ht
        obtain ⟨q, ws, rfl, hq, hm, hw⟩ := id hu
        have hn2 : 2 + D.depth.goK ps < n + 1 := hn
        row_hasAny sx
        refine e_lk (σ := []) hp (all_new fun l1 h1 => ?_)
        row_hasAny sx
        refine e_lk (σ := []) (by row_hasAny look) (all_new fun l2 h2 => ?_)
        row_hasAny sx
        have sA : Same H (upd (upd H l1 (.lst (vs.map fun kv => kV kv.1))) l2 (.lst (ws.map fun kv => kV kv.1))) := by row_hasAny sames
        refine ⟨_, _, .lst (ps.map fun kd => kD kd.1), rfl, ⟨l1, _, rfl, by row_hasAny look, by rw [List.length_map]; exact hl, DvL.mono sA (DvK.keys hv)⟩, ⟨l2, _, rfl, by row_hasAny look, by rw [List.length_map]; exact hm, DvL.mono sA (DvK.keys hw)⟩, ?_, fun H2 s2 => ?_⟩
        · show 1 + D.depth.go (ps.map fun kd => kD kd.1) < n
          rw [depth_keys]
          omega
        · have sB := sA.trans s2
          row_hasAny sx
          refine e_lv (σ := []) (sB _ _ hp) (all_new fun l3 h3 => ?_)
          row_hasAny sx
          refine e_lv (σ := []) (by row_hasAny look) (all_new fun l4 h4 => ?_)
          row_hasAny sx
          have sC : Same H (upd (upd H2 l3 (.lst (vs.map fun kv => kv.2))) l4 (.lst (ws.map fun kv => kv.2))) := by row_hasAny sames
          refine ⟨_, _, .lst (ps.map fun kd => kd.2), rfl, ⟨l3, _, rfl, by row_hasAny look, by rw [List.length_map]; exact hl, DvL.mono sC (DvK.vals hv)⟩, ⟨l4, _, rfl, by row_hasAny look, by rw [List.length_map]; exact hm, DvL.mono sC (DvK.vals hw)⟩, ?_, fun H3 s3 => ?_⟩
          · show 1 + D.depth.go (ps.map fun kd => kd.2) < n
            rw [depth_vals]
            omega
          · exact k H3 (sC.trans s3)
def f_law_same (n : Nat) : List M → Option Br
  | [.sh e, .sh e'] => some (brp (e' = e ∧ plain e = true ∧ dep e < n) (.sh (.bl true)))
  | _ => none
theorem ok_law_same (T : Txt K mg a d) (n : Nat) : FnOk P w K mg base CX0 (n + 2) a.law_same d.law_same ["told", "due"] (spC (ctF (f_law_same n))) := (ok_law_same_old T n).imp fun vs H Q E h => by
  obtain ⟨B, ms, hl, r, ⟨b, hf, hp⟩, kq, kx⟩ := h
  clear kx
  unfold f_law_same at hf
  split at hf
  · rename_i e e'
    cases hf
    obtain ⟨rfl, h1, h2⟩ := (show e' = e ∧ plain e = true ∧ dep e < n from hp)
    match vs, hl, r with
    | [v, w], _, r =>
      exact ⟨v, w, Pl.toD e', rfl, Ev.toD h1 r.valH, Ev.toD h1 r.tail.valH, h2, fun H' s => kq _ (.sh (.bl true)) H' (((r.tail.tail).grow s).push (e := .bl true) rfl) ⟨_, rfl, rfl⟩⟩
  · cases hf
theorem u_same {n : Nat} {e e' : Pl.E} {R : M → Prop} (he : e = e') (hp : plain e' = true ∧ dep e' < n) (k : R (.sh (.bl true))) : ∃ b, f_law_same n [.sh e, .sh e'] = some b ∧ b.pre ∧ (∀ cls xd, ¬ b.xp cls xd) ∧ ∀ r, b.post r → R r := by
  subst he
  exact cb1 rfl ⟨rfl, hp⟩ k

/-! ### _law_order_arrows -/
def f_law_order_arrows : List M → Option Br
  | [.sh (.lst ts)] => some ⟨∃ n f, n ≤ 200 ∧ ts = (tab n f).map Pl.E.lst, fun m => ∀ n f, ts = (tab n f).map Pl.E.lst → m = .ow ((raF n f).map prE), fun _ _ => False⟩
  | _ => none
theorem raF_congr {n : Nat} {f g : Nat → Nat → Bool} (h : ∀ a b, a < n → b < n → f a b = g a b) : raF n f = raF n g := by
  unfold raF
  refine flatMap_congr2 fun a ha => ?_
  rw [List.filter_congr (p := fun b => !f b a) (q := fun b => !g b a) fun b hb => ?_]
  rw [h b a (List.mem_range.mp hb) (List.mem_range.mp ha)]
theorem ok_law_order_arrows (T : Txt K mg a d) : FnOk P w K mg base CX0 1 a.law_order_arrows d.law_order_arrows ["below"] (spC (ctF f_law_order_arrows)) := by
  refine T.F_law_order_arrows.ok sc_law_order_arrows (fun vs H Q E h => spF_len (fun ms b hf => by unfold f_law_order_arrows at hf; split at hf <;> first | rfl | cases hf) h) (fun cdv A outer s H vs Q E hr h => ⟨_, (pss_cons (ps_set (i := 1) sc_law_order_arrows.nd rfl (by first | exact Or.inl rfl | exact Or.inr rfl) (pe_lst pa_nil))
      (pss_cons (ps_for PassesOwn.never rfl (pi_range1 rfl T.m_range (pa_cons (pe_callB (k_len K) (by rfl) T.m_len bt_len (pa_cons (pv 0) pa_nil)) pa_nil)) (pg_name (i := 2) sc_law_order_arrows.nd rfl (by first | exact Or.inl rfl | exact Or.inr rfl)) (pss_one (ps_for PassesOwn.never rfl (pi_range1 rfl T.m_range (pa_cons (pe_callB (k_len K) (by rfl) T.m_len bt_len (pa_cons (pv 0) pa_nil)) pa_nil)) (pg_name (i := 3) sc_law_order_arrows.nd rfl (by first | exact Or.inl rfl | exact Or.inr rfl)) (pss_one (ps_if (pt_not (k_tru K (pe_ix (k_ix K) (pe_ix (k_ix K) (pv 0) (pv 3) (fun _ _ => rfl)) (pv 2) (fun _ _ => rfl)))) (pss_one (ps_expr (pe_bm PySem.F.plainAttrs_list PySem.F.slot_list_append PySem.F.type_list_append mt_append (pv 1) (pa_cons (pe_tup (pa_cons (pv 2) (pa_cons (pv 3) pa_nil))) pa_nil)))) pss_nil)))))
      (pss_one (ps_ret (pv 1))))), p_bodyF h fun ms b hf hp => ?_⟩)
  unfold f_law_order_arrows at hf
  split at hf
  rotate_right
  · cases hf
  · rename_i ts
    cases hf
    obtain ⟨n, f, hn, rfl⟩ := (show ∃ n f, n ≤ 200 ∧ ts = (tab n f).map Pl.E.lst from hp)
    have zl : sizeLine = 16777216 := sizeLine_eq
    have hl : ((tab n f).map Pl.E.lst).length = n := by rw [List.length_map, tab_len]
    have fin : ∀ n' f', (tab n f).map Pl.E.lst = (tab n' f').map Pl.E.lst → M.ow ((raF n f).map prE) = M.ow ((raF n' f').map prE) := fun n' f' h => by
      obtain ⟨rfl, hc⟩ := tab_inj3 h
      rw [raF_congr hc]
    refine p_seqC (fun ρ => ρ = [.sh (.lst ((tab n f).map .lst)), .ow [], .no, .no]) ?_ ?_
    · row_hasAny pu
      exact rfl
    rintro ρ rfl
    refine p_seqC (fun ρ => ∃ z2 z3 : M, ρ = [.sh (.lst ((tab n f).map .lst)), .ow ((raF n f).map prE), z2, z3]) ?_ ?_
    · refine q_for (fun L i ρ => L.length = n ∧ ∃ z2 z3 : M, ρ = [.sh (.lst ((tab n f).map .lst)), .ow ((raU n f i).map prE), z2, z3]) ?_
      row_hasAny pu
      refine ⟨⟨by rw [rng_len, hl]; omega, _, _, rfl⟩, ?_, ?_⟩
      · rintro i e ρ he ⟨hL, z2, z3, rfl⟩
        have hi := (List.getElem?_eq_some_iff.mp he).1
        rw [hL] at hi
        obtain ⟨_, rfl⟩ := rng_at he
        rw [Int.zero_add]
        have h1 := raU_len n f i
        have h3 : (i + 1) * n ≤ 200 * 200 := Nat.mul_le_mul (by omega) hn
        rw [Nat.succ_mul] at h3
        row_hasAny pu
        refine q_for (fun L j ρ => L.length = n ∧ ∃ z3 : M, ρ = [.sh (.lst ((tab n f).map .lst)), .ow ((raU n f i ++ rowR n f i j).map prE), .sh (.int (i : Int)), z3]) ?_
        row_hasAny pu
        refine ⟨⟨by rw [rng_len, hl]; omega, z3, by unfold rowR; simp⟩, ?_, ?_⟩
        · rintro j x ρ hx ⟨hL2, z3, rfl⟩
          have hj := (List.getElem?_eq_some_iff.mp hx).1
          rw [hL2] at hj
          obtain ⟨_, rfl⟩ := rng_at hx
          rw [Int.zero_add]
          have h2 := rowR_len n f i j
          have t1 : ((tab n f).map Pl.E.lst)[j]? = some (.lst (rowB n (f j))) := by rw [List.getElem?_map, tab_at hj]; rfl
          row_hasAny pu
          refine v_ixL (atI_nat' t1) ?_
          row_hasAny pu
          refine v_ixL (atI_nat' (rowB_at hi)) ?_
          cases hb : f j i with
          | true =>
            row_hasAny pu
            exact ⟨hL2, .sh (.int (j : Int)), by rw [rowR_succ, hb]; simp⟩
          | false =>
            row_hasAny pu
            refine ⟨_, _, rfl, rfl, by rw [List.length_map, List.length_append]; omega, ?_⟩
            row_hasAny pu
            exact ⟨hL2, .sh (.int (j : Int)), by rw [rowR_succ, hb]; simp [prE]⟩
        · rintro ρ ⟨hL2, z3, rfl⟩
          rw [hL2]
          exact ⟨by omega, .sh (.int (i : Int)), z3, by rw [raU_succ]⟩
      · rintro ρ ⟨hL, z2, z3, rfl⟩
        rw [hL]
        exact ⟨_, _, rfl⟩
    rintro ρ ⟨z2, z3, rfl⟩
    row_hasAny pu
    exact fin

/-! ### _law_table_of -/
--@hint {} => tuplekeys
--@hint marks[arrow] = True => dict
--@hint marks[arrow] => dict
--@hint (b, a) not in marks => dict
def f_law_table_of : List M → Option Br
  | [.sh (.int n), .sh (.lst es)] => some (brs (∃ (N : Nat) (A : List (Int × Int)), n = (N : Int) ∧ es = A.map prE ∧ A.length ≤ 100000) fun R => ∀ (N : Nat) (A : List (Int × Int)), n = (N : Int) → es = A.map prE → (owP N A → R (.sh (.lst ((tab N (tF A)).map .lst)))) ∧ (¬ owP N A → R (.sh .non)))
  | _ => none
theorem any_filter {l : List Nat} {p : Nat → Bool} : (!((l.filter p).map natE).isEmpty) = l.any p := by
  rw [Bool.eq_iff_iff, List.any_eq_true, Bool.not_eq_true', List.isEmpty_eq_false_iff_exists_mem]
  constructor
  · rintro ⟨x, hx⟩
    obtain ⟨y, hy, _⟩ := List.mem_map.mp hx
    exact ⟨y, (List.mem_filter.mp hy).1, (List.mem_filter.mp hy).2⟩
  · rintro ⟨y, h1, h2⟩
    exact ⟨_, List.mem_map.mpr ⟨y, List.mem_filter.mpr ⟨h1, h2⟩, rfl⟩⟩
theorem ok_law_table_of (T : Txt K mg a d) : FnOk P w K mg base CX0 1 a.law_table_of d.law_table_of ["n", "arrows"] (spC (ctF f_law_table_of)) := by
  refine T.F_law_table_of.ok sc_law_table_of (fun vs H Q E h => spF_len (fun ms b hf => by unfold f_law_table_of at hf; split at hf <;> first | rfl | cases hf) h) (fun cdv A outer s H vs Q E hr h => ⟨_, (pss_cons (ps_if (pt_cmpR op_gt (pv 0) pe_int (nomark _)) (pss_one (ps_ret pe_non)) pss_nil)
      (pss_cons (ps_set (i := 2) sc_law_table_of.nd rfl (by first | exact Or.inl rfl | exact Or.inr rfl) pe_dnewT)
      (pss_cons (ps_for PassesOwn.never rfl (pi_or (kp_list K (pv 1)) (kp_tup K (pv 1))) (pg_name (i := 3) sc_law_table_of.nd rfl (by first | exact Or.inl rfl | exact Or.inr rfl)) (pss_one (ps_dput (hu_of hr) (pv 2) (pv 3) pe_bl rfl)))
      (pss_cons (ps_set (i := 4) sc_law_table_of.nd rfl (by first | exact Or.inl rfl | exact Or.inr rfl) (pe_lc (own := [("a", 5)]) (g := gName 5) (tt := tYes) rfl sc_law_table_of.nd (pi_range1 rfl T.m_range (pa_cons (pv 0) pa_nil)) (blkOk_by (N := ["n", "arrows", "marks", "arrow", "below", "a", "b", "c"]) (sc := defScope s_law_table_of) (by decide +kernel)) (fun _ _ _ _ _ => (pg_name (i := 5) sc_law_table_of.nd rfl (by first | exact Or.inl rfl | exact Or.inr rfl))) (fun _ _ _ _ _ => pts_nil) (fun _ _ _ _ _ => (pe_lc (own := [("b", 6)]) (g := gName 6) (tt := tYes) rfl sc_law_table_of.nd (pi_range1 rfl T.m_range (pa_cons (pv 0) pa_nil)) (blkOk_by (by kernel_rfl)) (fun _ _ _ _ _ => (pg_name (i := 6) sc_law_table_of.nd rfl (by first | exact Or.inl rfl | exact Or.inr rfl))) (fun _ _ _ _ _ => pts_nil) (fun _ _ _ _ _ => (pe_cmp (pc_dnotin (hu_of hr) (pe_tup (pa_cons (pv 6) (pa_cons (pv 5) pa_nil))) (pv 2)) rfl))))))
      (pss_cons (ps_for PassesOwn.never rfl (pi_range1 rfl T.m_range (pa_cons (pv 0) pa_nil)) (pg_name (i := 5) sc_law_table_of.nd rfl (by first | exact Or.inl rfl | exact Or.inr rfl)) (pss_one (ps_if (PW.pt (pw_or (pt_not (k_tru K (pe_ix (k_ix K) (pe_ix (k_ix K) (pv 4) (pv 5) (fun _ _ => rfl)) (pv 5) (fun _ _ => rfl)))) (pw_or1 (k_tru K (pe_lc (own := [("b", 6)]) (g := gName 6) rfl sc_law_table_of.nd (pi_range1 rfl T.m_range (pa_cons (pv 5) pa_nil)) (blkOk_by (N := ["n", "arrows", "marks", "arrow", "below", "a", "b", "c"]) (sc := defScope s_law_table_of) (by decide +kernel)) (fun _ _ _ _ _ => (pg_name (i := 6) sc_law_table_of.nd rfl (by first | exact Or.inl rfl | exact Or.inr rfl))) (fun _ _ _ _ _ => pts_one (k_tru K (pe_ix (k_ix K) (pe_ix (k_ix K) (pv 4) (pv 5) (fun _ _ => rfl)) (pv 6) (fun _ _ => rfl)))) (fun _ _ _ _ _ => (pv 6))))))) (pss_one (ps_ret pe_non)) pss_nil)))
      (pss_cons (ps_for PassesOwn.never rfl (pi_range1 rfl T.m_range (pa_cons (pv 0) pa_nil)) (pg_name (i := 5) sc_law_table_of.nd rfl (by first | exact Or.inl rfl | exact Or.inr rfl)) (pss_one (ps_for PassesOwn.never rfl (pi_range2 rfl T.m_range (pa_cons (pe_op (k_add K) (pv 5) pe_int) (pa_cons (pv 0) pa_nil))) (pg_name (i := 6) sc_law_table_of.nd rfl (by first | exact Or.inl rfl | exact Or.inr rfl)) (pss_one (ps_if (PW.pt (pw_and (k_tru K (pe_ix (k_ix K) (pe_ix (k_ix K) (pv 4) (pv 5) (fun _ _ => rfl)) (pv 6) (fun _ _ => rfl))) (pw_and1 (k_tru K (pe_lc (own := [("c", 7)]) (g := gName 7) rfl sc_law_table_of.nd (pi_range2 rfl T.m_range (pa_cons (pe_op (k_add K) (pv 6) pe_int) (pa_cons (pv 0) pa_nil))) (blkOk_by (N := ["n", "arrows", "marks", "arrow", "below", "a", "b", "c"]) (sc := defScope s_law_table_of) (by decide +kernel)) (fun _ _ _ _ _ => (pg_name (i := 7) sc_law_table_of.nd rfl (by first | exact Or.inl rfl | exact Or.inr rfl))) (fun _ _ _ _ _ => pts_one (PW.pt (pw_and (k_tru K (pe_ix (k_ix K) (pe_ix (k_ix K) (pv 4) (pv 6) (fun _ _ => rfl)) (pv 7) (fun _ _ => rfl))) (pw_and1 (pt_not (k_tru K (pe_ix (k_ix K) (pe_ix (k_ix K) (pv 4) (pv 5) (fun _ _ => rfl)) (pv 7) (fun _ _ => rfl)))))))) (fun _ _ _ _ _ => (pv 7))))))) (pss_one (ps_ret pe_non)) pss_nil)))))
      (pss_one (ps_ret (pv 4))))))))), p_bodyF h fun ms b hf hp => ?_⟩)
  unfold f_law_table_of at hf
  split at hf
  rotate_right
  · cases hf
  · rename_i n es
    cases hf
    obtain ⟨N, A, rfl, rfl, hAl⟩ := (show ∃ (N : Nat) (A : List (Int × Int)), n = (N : Int) ∧ es = A.map prE ∧ A.length ≤ 100000 from hp)
    have zl : sizeLine = 16777216 := sizeLine_eq
    have yes : owP N A → ∀ R : M → Prop, (∀ (N' : Nat) (A' : List (Int × Int)), (N : Int) = (N' : Int) → A.map prE = A'.map prE → (owP N' A' → R (.sh (.lst ((tab N' (tF A')).map .lst)))) ∧ (¬ owP N' A' → R (.sh .non))) → R (.sh (.lst ((tab N (tF A)).map .lst))) := fun h R k => (k N A rfl rfl).1 h
    have no : ¬ owP N A → ∀ R : M → Prop, (∀ (N' : Nat) (A' : List (Int × Int)), (N : Int) = (N' : Int) → A.map prE = A'.map prE → (owP N' A' → R (.sh (.lst ((tab N' (tF A')).map .lst)))) ∧ (¬ owP N' A' → R (.sh .non))) → R (.sh .non) := fun h R k => (k N A rfl rfl).2 h
    refine p_seqC (fun ρ => N ≤ 63 ∧ ρ = [.sh (.int (N : Int)), .sh (.lst (A.map prE)), .no, .no, .no, .no, .no, .no]) ?_ ?_
    · row_hasAny pu
      refine if_d (fun h => ?_) (fun h => ?_)
      · row_hasAny pu
        exact no fun h2 => by have := h2.1; omega
      · row_hasAny pu
        exact ⟨by omega, rfl⟩
    rintro ρ ⟨h63, rfl⟩
    refine p_seqC (fun ρ => ρ = [.sh (.int (N : Int)), .sh (.lst (A.map prE)), .ot [], .no, .no, .no, .no, .no]) ?_ ?_
    · row_hasAny pu
      exact rfl
    rintro ρ rfl
    refine p_seqC (fun ρ => ∃ z3 : M, ρ = [.sh (.int (N : Int)), .sh (.lst (A.map prE)), .ot (dE (.bl true) (ddP A)), z3, .no, .no, .no, .no]) ?_ ?_
    · refine q_for (fun L i ρ => L = A.map prE ∧ ∃ z3 : M, ρ = [.sh (.int (N : Int)), .sh (.lst (A.map prE)), .ot (dE (.bl true) (ddP (A.take i))), z3, .no, .no, .no, .no]) ?_
      refine p_iseq rfl rfl trivial ?_
      row_hasAny pu
      refine ⟨⟨rfl, _, rfl⟩, ?_, ?_⟩
      · rintro i e ρ he ⟨_, z3, rfl⟩
        rw [List.getElem?_map] at he
        obtain ⟨p, hp1, rfl⟩ := Option.map_eq_some_iff.mp he
        have hiA := (List.getElem?_eq_some_iff.mp hp1).1
        have htk : A.take (i + 1) = A.take i ++ [p] := by rw [List.take_add_one, hp1]; rfl
        have hd := ddP_len (A.take i)
        have hl := List.length_take_le i A
        have hdz : (dE (Pl.E.bl true) (ddP (A.take i))).length < sizeLine := by
          unfold dE
          rw [List.length_map]
          omega
        have ep := put_dE (e := .bl true) (A.take i) p
        row_hasAny pu
        refine p_dputT ?_
        row_hasAny pu
        refine ⟨_, _, rfl, rfl, ?_⟩
        row_hasAny pu
        refine ⟨keyP p, rfl, rfl, hdz, ?_⟩
        rw [ep, ← htk]
        exact ⟨rfl, _, rfl⟩
      · rintro ρ ⟨_, z3, rfl⟩
        rw [List.length_map, List.take_length]
        exact ⟨_, rfl⟩
    rintro ρ ⟨z3, rfl⟩
    refine p_frS 2 rfl nofun ?_
    refine p_noS 3 rfl ?_
    refine p_seqC (fun ρ => ρ = [.sh (.int (N : Int)), .sh (.lst (A.map prE)), .sh (.dit (dE (.bl true) (ddP A))), .no, .ow ((tab N (tF A)).map .lst), .no, .no, .no]) ?_ ?_
    · refine q_asg ?_
      refine p_lc (fun L i acc => L.length = N ∧ acc = (List.range i).map fun a => Pl.E.lst (rowB N (tF A a))) ?_
      row_hasAny pu
      refine ⟨by rw [rng_len]; omega, ⟨by rw [rng_len]; omega, rfl⟩, ?_, ?_⟩
      · rintro i x acc hx ⟨hL, rfl⟩
        obtain ⟨_, rfl⟩ := rng_at hx
        rw [Int.zero_add]
        row_hasAny pu
        refine p_lc (fun L2 j acc => L2.length = N ∧ acc = (List.range j).map fun b => Pl.E.bl (tF A i b)) ?_
        row_hasAny pu
        refine ⟨by rw [rng_len]; omega, ⟨by rw [rng_len]; omega, rfl⟩, ?_, ?_⟩
        · rintro j x acc hx ⟨hL2, rfl⟩
          obtain ⟨_, rfl⟩ := rng_at hx
          rw [Int.zero_add]
          row_hasAny pu
          refine p_ninDt ?_
          row_hasAny pu
          refine ⟨((j : Int), (i : Int)), rfl, ?_⟩
          row_hasAny pu
          refine ⟨_, ddP A, rfl, rfl, _, rfl, hL2, ?_⟩
          rw [List.range_succ, List.map_append]
          show _ ++ [Pl.E.bl (!decide (((j : Int), (i : Int)) ∈ ddP A))] = _ ++ [Pl.E.bl (!decide (((j : Int), (i : Int)) ∈ A))]
          rw [show decide (((j : Int), (i : Int)) ∈ ddP A) = decide (((j : Int), (i : Int)) ∈ A) from decide_eq_decide.mpr (mem_ddP A)]
        · rintro acc ⟨hL2, rfl⟩
          rw [hL2]
          refine ⟨rfl, _, rfl, by omega, ?_⟩
          rw [List.range_succ, List.map_append]
          rfl
      · rintro acc ⟨hL, rfl⟩
        rw [hL]
        refine p_gname ?_
        rw [show (tab N (tF A)).map Pl.E.lst = (List.range N).map fun a => Pl.E.lst (rowB N (tF A a)) by unfold tab; rw [List.map_map]; rfl]
        exact rfl
    rintro ρ rfl
    refine p_frS 4 rfl nofun ?_
    have row : ∀ i, i < N → ((tab N (tF A)).map Pl.E.lst)[i]? = some (.lst (rowB N (tF A i))) := fun i hi => by rw [List.getElem?_map, tab_at hi]; rfl
    generalize hf : tF A = f at *
    refine p_seqC (fun ρ => (∀ x, x < N → f x x = true ∧ ∀ y, y < x → f x y = false) ∧ ∃ z5 z6 : M, ρ = [.sh (.int (N : Int)), .sh (.lst (A.map prE)), .sh (.dit (dE (.bl true) (ddP A))), .no, .sh (.lst ((tab N (f)).map .lst)), z5, z6, .no]) ?_ ?_
    · refine q_for (fun L i ρ => L.length = N ∧ (∀ x, x < i → f x x = true ∧ ∀ y, y < x → f x y = false) ∧ ∃ z5 z6 : M, ρ = [.sh (.int (N : Int)), .sh (.lst (A.map prE)), .sh (.dit (dE (.bl true) (ddP A))), .no, .sh (.lst ((tab N (f)).map .lst)), z5, z6, .no]) ?_
      row_hasAny pu
      refine ⟨⟨by rw [rng_len]; omega, fun x hx => absurd hx (Nat.not_lt_zero _), _, _, rfl⟩, ?_, ?_⟩
      · rintro i e ρ he ⟨hL, hall, z5, z6, rfl⟩
        have hi := (List.getElem?_eq_some_iff.mp he).1
        rw [hL] at hi
        obtain ⟨_, rfl⟩ := rng_at he
        rw [Int.zero_add]
        row_hasAny pu
        refine v_ixL (atI_nat' (row i hi)) ?_
        row_hasAny pu
        refine v_ixL (atI_nat' (rowB_at hi)) ?_
        cases h : f i i with
        | false =>
          row_hasAny pu
          exact no fun h2 => by have h3 := h2.2.1 i hi; rw [hf, h] at h3; cases h3
        | true =>
          row_hasAny pu
          refine p_lc (fun L j acc => L.length = i ∧ acc = ((List.range j).filter (f i)).map natE) ?_
          row_hasAny pu
          refine ⟨by rw [rng_len]; omega, ⟨by rw [rng_len]; omega, rfl⟩, ?_, ?_⟩
          · rintro j x acc hx ⟨hL2, rfl⟩
            have hj := (List.getElem?_eq_some_iff.mp hx).1
            rw [hL2] at hj
            obtain ⟨_, rfl⟩ := rng_at hx
            rw [Int.zero_add, List.range_succ, List.filter_append, List.map_append]
            row_hasAny pu
            refine v_ixL (atI_nat' (row i hi)) ?_
            row_hasAny pu
            refine v_ixL (atI_nat' (rowB_at (show j < N by omega))) ?_
            cases h1 : f i j with
            | true =>
              row_hasAny pu
              exact ⟨rfl, _, rfl, hL2, by simp [h1, natE]⟩
            | false =>
              row_hasAny pu
              exact ⟨rfl, hL2, by simp [h1]⟩
          · rintro acc ⟨hL2, rfl⟩
            rw [hL2]
            row_hasAny pu
            rw [any_filter]
            cases hany : (List.range i).any (f i) with
            | false =>
              row_hasAny pu
              refine ⟨hL, fun x hx => ?_, _, _, rfl⟩
              rcases Nat.lt_or_ge x i with h2 | h2
              · exact hall x h2
              · obtain rfl : x = i := by omega
                refine ⟨h, fun y hy => ?_⟩
                have := List.any_eq_false.mp hany y (List.mem_range.mpr hy)
                simpa using this
            | true =>
              row_hasAny pu
              obtain ⟨y, hy, h3⟩ := List.any_eq_true.mp hany
              exact no fun h2 => by have h4 := h2.2.2.1 i y hi (List.mem_range.mp hy); rw [hf, h3] at h4; cases h4
      · rintro ρ ⟨hL, hall, z5, z6, rfl⟩
        rw [hL] at hall
        exact ⟨hall, _, _, rfl⟩
    rintro ρ ⟨hdn, z5, z6, rfl⟩
    refine p_seqC (fun ρ => (∀ x y c, x < y → y < c → c < N → f x y = true → f y c = true → f x c = true) ∧ ∃ z5 z6 : M, ρ = [.sh (.int (N : Int)), .sh (.lst (A.map prE)), .sh (.dit (dE (.bl true) (ddP A))), .no, .sh (.lst ((tab N (f)).map .lst)), z5, z6, .no]) ?_ ?_
    · refine q_for (fun L i ρ => L.length = N ∧ (∀ x y c, x < i → x < y → y < c → c < N → f x y = true → f y c = true → f x c = true) ∧ ∃ z5 z6 : M, ρ = [.sh (.int (N : Int)), .sh (.lst (A.map prE)), .sh (.dit (dE (.bl true) (ddP A))), .no, .sh (.lst ((tab N (f)).map .lst)), z5, z6, .no]) ?_
      row_hasAny pu
      refine ⟨⟨by rw [rng_len]; omega, fun x _ _ hx => absurd hx (Nat.not_lt_zero _), _, _, rfl⟩, ?_, ?_⟩
      · rintro i e ρ he ⟨hL, hall, z5, z6, rfl⟩
        have hi := (List.getElem?_eq_some_iff.mp he).1
        rw [hL] at hi
        obtain ⟨_, rfl⟩ := rng_at he
        rw [Int.zero_add]
        row_hasAny pu
        refine q_for (fun L j ρ => L.length = N - (i + 1) ∧ (∀ y c, i < y → y < i + 1 + j → y < c → c < N → f i y = true → f y c = true → f i c = true) ∧ ∃ z6 : M, ρ = [.sh (.int (N : Int)), .sh (.lst (A.map prE)), .sh (.dit (dE (.bl true) (ddP A))), .no, .sh (.lst ((tab N (f)).map .lst)), .sh (.int (i : Int)), z6, .no]) ?_
        row_hasAny pu
        refine ⟨⟨by rw [rng_len]; omega, fun y _ h1 h2 => by omega, _, rfl⟩, ?_, ?_⟩
        · rintro j x ρ hx ⟨hL2, hall2, z6, rfl⟩
          have hj := (List.getElem?_eq_some_iff.mp hx).1
          rw [hL2] at hj
          obtain ⟨_, rfl⟩ := rng_at hx
          rw [show ((i : Int) + 1 + (j : Int)) = ((i + 1 + j : Nat) : Int) by omega]
          obtain ⟨b, hb⟩ : ∃ b, b = i + 1 + j := ⟨_, rfl⟩
          rw [← hb]
          have hbN : b < N := by omega
          have step : (f i b = true → ∀ c, b < c → c < N → f b c = true → f i c = true) → ∀ y c, i < y → y < i + 1 + (j + 1) → y < c → c < N → f i y = true → f y c = true → f i c = true := fun h y c h1 h2 h3 h4 h5 h6 => by
            rcases Nat.lt_or_ge y (i + 1 + j) with h7 | h7
            · exact hall2 y c h1 h7 h3 h4 h5 h6
            · obtain rfl : y = b := by omega
              exact h h5 c h3 h4 h6
          row_hasAny pu
          refine v_ixL (atI_nat' (row i hi)) ?_
          row_hasAny pu
          refine v_ixL (atI_nat' (rowB_at hbN)) ?_
          cases h : f i b with
          | false =>
            row_hasAny pu
            exact ⟨hL2, step (fun h2 => by rw [h] at h2; cases h2), _, rfl⟩
          | true =>
            row_hasAny pu
            refine p_lc (fun L q acc => L.length = N - (b + 1) ∧ acc = (((List.range q).map (b + 1 + ·)).filter fun c => f b c && !f i c).map natE) ?_
            row_hasAny pu
            refine ⟨by rw [rng_len]; omega, ⟨by rw [rng_len]; omega, rfl⟩, ?_, ?_⟩
            · rintro q x acc hx ⟨hL3, rfl⟩
              have hq := (List.getElem?_eq_some_iff.mp hx).1
              rw [hL3] at hq
              obtain ⟨_, rfl⟩ := rng_at hx
              rw [show ((b : Int) + 1 + (q : Int)) = ((b + 1 + q : Nat) : Int) by omega, List.range_succ, List.map_append (f := (b + 1 + ·)), List.filter_append, List.map_append (f := natE)]
              have hcn : b + 1 + q < N := by omega
              row_hasAny pu
              refine v_ixL (atI_nat' (row b hbN)) ?_
              row_hasAny pu
              refine v_ixL (atI_nat' (rowB_at hcn)) ?_
              cases h1 : f b (b + 1 + q) with
              | false =>
                row_hasAny pu
                exact ⟨rfl, hL3, by rw [List.map_cons, List.map_nil, List.filter_cons_of_neg (by rw [h1]; exact Bool.false_ne_true)]; simp⟩
              | true =>
                row_hasAny pu
                refine v_ixL (atI_nat' (row i hi)) ?_
                row_hasAny pu
                refine v_ixL (atI_nat' (rowB_at hcn)) ?_
                cases h2 : f i (b + 1 + q) with
                | true =>
                  row_hasAny pu
                  exact ⟨rfl, hL3, by rw [List.map_cons, List.map_nil, List.filter_cons_of_neg (by rw [h1, h2]; exact Bool.false_ne_true)]; simp⟩
                | false =>
                  row_hasAny pu
                  exact ⟨rfl, _, rfl, hL3, by rw [List.map_cons, List.map_nil, List.filter_cons_of_pos (by rw [h1, h2]; rfl)]; rfl⟩
            · rintro acc ⟨hL3, rfl⟩
              rw [hL3]
              row_hasAny pu
              rw [any_filter]
              cases hany : ((List.range (N - (b + 1))).map (b + 1 + ·)).any (fun c => f b c && !f i c) with
              | false =>
                row_hasAny pu
                refine ⟨hL2, step fun _ c h3 h4 h5 => ?_, _, rfl⟩
                have := List.any_eq_false.mp hany c (List.mem_map.mpr ⟨c - (b + 1), List.mem_range.mpr (by omega), by omega⟩)
                rw [h5] at this
                simpa using this
              | true =>
                row_hasAny pu
                obtain ⟨c, hc, h3⟩ := List.any_eq_true.mp hany
                obtain ⟨k, hk, rfl⟩ := List.mem_map.mp hc
                have := List.mem_range.mp hk
                obtain ⟨h4, h5⟩ := Bool.and_eq_true_iff.mp h3
                refine no fun h2 => ?_
                have h6 := h2.2.2.2 i b (b + 1 + k) (by omega) (by omega) (by omega) (by rw [hf]; exact h) (by rw [hf]; exact h4)
                rw [hf] at h6
                rw [h6] at h5
                cases h5
        · rintro ρ ⟨hL2, hall2, z6, rfl⟩
          refine ⟨hL, fun x y c h1 h2 h3 h4 h5 h6 => ?_, _, z6, rfl⟩
          rcases Nat.lt_or_ge x i with h7 | h7
          · exact hall x y c h7 h2 h3 h4 h5 h6
          · obtain rfl : x = i := by omega
            exact hall2 y c h2 (by omega) h3 h4 h5 h6
      · rintro ρ ⟨hL, hall, z5, z6, rfl⟩
        exact ⟨fun x y c h1 h2 h3 => hall x y c (by omega) h1 h2 h3, _, _, rfl⟩
    rintro ρ ⟨htr, z5, z6, rfl⟩
    row_hasAny pu
    exact yes ⟨h63, by rw [hf]; exact ⟨fun x hx => (hdn x hx).1, fun x y hx hy => (hdn x hx).2 y hy, htr⟩⟩

/-! ### _law_toggled -/
--@hint pair in arrows => data
--@hint sorted(arrows + [pair]) => data
def f_law_toggled : List M → Option Br
  | [.sh (.lst es), .sh e] => some ⟨∃ (N : Nat) (A : List (Int × Int)) (p : Int × Int), es = A.map prE ∧ e = prE p ∧ A.Pairwise plt ∧ A.length ≤ 10000, fun m => ∀ (A : List (Int × Int)) (p : Int × Int), es = A.map prE → e = prE p → ∃ B : List (Int × Int), m = .ow (B.map prE) ∧ B.Pairwise plt ∧ B.length ≤ A.length + 1 ∧ ∀ q ∈ B, q ∈ A ∨ q = p, fun _ _ => False⟩
  | _ => none
theorem arrS_le' (A : List (Int × Int)) : (arrS A).length ≤ A.length := by rw [arrS_len]; exact ddP_len A
theorem u_tog {A : List (Int × Int)} {u v : Int} {R : M → Prop} (hA : A.Pairwise plt) (hl : A.length ≤ 10000) (k : ∀ B : List (Int × Int), B.Pairwise plt → B.length ≤ A.length + 1 → (∀ q ∈ B, q ∈ A ∨ q = (u, v)) → R (.ow (B.map prE))) : ∃ b, f_law_toggled [.sh (.lst (A.map prE)), .sh (.tup [.int u, .int v])] = some b ∧ b.pre ∧ (∀ cls xd, ¬ b.xp cls xd) ∧ ∀ r, b.post r → R r :=
  ⟨_, rfl, ⟨0, A, (u, v), rfl, rfl, hA, hl⟩, fun _ _ z => z, fun m hm => by
    obtain ⟨B, rfl, h1, h2, h3⟩ := hm A (u, v) rfl rfl
    exact k B h1 h2 h3⟩
theorem ok_law_toggled (T : Txt K mg a d) : FnOk P w K mg base CX0 1 a.law_toggled d.law_toggled ["arrows", "pair"] (spC (ctF f_law_toggled)) := by
  refine T.F_law_toggled.ok sc_law_toggled (fun vs H Q E h => spF_len (fun ms b hf => by unfold f_law_toggled at hf; split at hf <;> first | rfl | cases hf) h) (fun cdv A outer s H vs Q E hr h => ⟨_, (pss_cons (ps_if (pt_cmpR (k_inD K (room65 hr)) (pv 1) (pv 0) rfl) (pss_one (ps_ret (pe_lc (own := [("one", 2)]) (g := gName 2) rfl sc_law_toggled.nd (pi_or (kp_list K (pv 0)) (kp_tup K (pv 0))) (blkOk_by (N := ["arrows", "pair", "one"]) (sc := defScope s_law_toggled) (by decide +kernel)) (fun _ _ _ _ _ => (pg_name (i := 2) sc_law_toggled.nd rfl (by first | exact Or.inl rfl | exact Or.inr rfl))) (fun _ _ _ _ _ => pts_one (pt_cmpR (k_ne K hr.units) (pv 2) (pv 1) (nomark _))) (fun _ _ _ _ _ => (pv 2))))) pss_nil)
      (pss_one (ps_ret (pe_callB (k_sortD K hr.units) (by rfl) T.m_sorted bt_sorted (pa_cons (pe_op (k_add K) (pv 0) (pe_lst (pa_cons (pv 1) pa_nil))) pa_nil))))), p_bodyF h fun ms b hf hp => ?_⟩)
  unfold f_law_toggled at hf
  split at hf
  rotate_right
  · cases hf
  · rename_i es e
    cases hf
    obtain ⟨N, A, p, rfl, rfl, hA, hAl⟩ := (show ∃ (N : Nat) (A : List (Int × Int)) (p : Int × Int), es = A.map prE ∧ e = prE p ∧ A.Pairwise plt ∧ A.length ≤ 10000 from hp)
    have zl : sizeLine = 16777216 := sizeLine_eq
    have fin : ∀ B : List (Int × Int), B.Pairwise plt → B.length ≤ A.length + 1 → (∀ q ∈ B, q ∈ A ∨ q = p) → ∀ (A' : List (Int × Int)) (p' : Int × Int), A.map prE = A'.map prE → prE p = prE p' → ∃ B' : List (Int × Int), M.ow (B.map prE) = .ow (B'.map prE) ∧ B'.Pairwise plt ∧ B'.length ≤ A'.length + 1 ∧ ∀ q ∈ B', q ∈ A' ∨ q = p' := fun B h1 h2 h3 A' p' e1 e2 => by
      obtain rfl := prE_inj e1
      obtain rfl := List.head_eq_of_cons_eq (prE_inj (A := [p]) (B := [p']) (by rw [List.map_cons, List.map_cons, e2]))
      exact ⟨B, rfl, h1, h2, h3⟩
    rw [show prE p = Pl.E.tup [.int p.1, .int p.2] from rfl] at *
    row_hasAny pu
    refine v_inP ?_
    by_cases hm : p ∈ A
    · rw [decide_eq_true hm]
      row_hasAny pu
      refine p_lc (fun L j acc => L = A.map prE ∧ acc = ((A.take j).filter fun q => !decide (q = p)).map prE) ?_
      refine p_iseq rfl rfl trivial ?_
      row_hasAny pu
      refine ⟨by rw [List.length_map]; omega, ⟨rfl, rfl⟩, ?_, ?_⟩
      · rintro j e acc he ⟨_, rfl⟩
        rw [List.getElem?_map] at he
        obtain ⟨q, hq, rfl⟩ := Option.map_eq_some_iff.mp he
        have hs : (A.take (j + 1)).filter (fun q => !decide (q = p)) = (A.take j).filter (fun q => !decide (q = p)) ++ (if q = p then [] else [q]) := by
          rw [List.take_add_one, hq, List.filter_append]
          by_cases h : q = p <;> simp [h]
        row_hasAny pu
        refine v_neP rfl rfl (by show 1 + max 0 (max 0 0) ≤ 64; decide) (by show 1 + max 0 (max 0 0) ≤ 64; decide) ?_
        rw [show eqE (prE q) (.tup [.int p.1, .int p.2]) = decide (q = p) from eqE_pr q p, hs]
        by_cases h : q = p
        · rw [decide_eq_true h, if_pos h]
          row_hasAny pu
          exact ⟨rfl, rfl, by rw [List.append_nil]⟩
        · rw [decide_eq_false h, if_neg h]
          row_hasAny pu
          exact ⟨rfl, _, rfl, rfl, by rw [List.map_append]; rfl⟩
      · rintro acc ⟨_, rfl⟩
        rw [List.length_map, List.take_length]
        refine fin _ (hA.filter _) (Nat.le_trans (List.length_filter_le ..) (by omega)) fun q hq => .inl (List.mem_filter.mp hq).1
    · rw [decide_eq_false hm]
      row_hasAny pu
      refine v_addL (by rw [List.length_map]; show A.length + 1 ≤ _; omega) ?_
      row_hasAny pu
      rw [show A.map prE ++ [Pl.E.tup [.int p.1, .int p.2]] = (A ++ [p]).map prE by rw [List.map_append]; rfl]
      refine v_sortP ?_
      have nd : (A ++ [p]).Nodup := List.nodup_append.mpr ⟨plt_nd hA, by simp, fun x hx y hy => by rw [List.mem_singleton.mp hy]; rintro rfl; exact hm hx⟩
      rw [sortP_arrS nd]
      refine fin _ (arrS_asc _) (Nat.le_trans (arrS_le' _) (by rw [List.length_append]; exact Nat.le_refl _)) fun q hq => ?_
      rcases List.mem_append.mp (mem_arrS.mp hq) with h | h
      · exact .inl h
      · exact .inr (List.mem_singleton.mp h)


/-! ### _law_changed -/
--@hint sorted([(swap.get(one[0], one[0]), swap.get(one[1], one[1])) for one in arrows]) => data
--@hint {u: v, v: u} => =(pe_disp (pps_cons $u $v (pps_cons $v $u pps_nil)) (by rfl) (by rfl) (fun z => by cases z) (by decide))
--@hint swap.get(one[0], one[0]) => =(pe_dget2 (hu_of hr) $swap (pe_ix (k_ix K) $one pe_int (fun _ _ => rfl)) (pe_ix (k_ix K) $one pe_int (fun _ _ => rfl)) ⟨rfl, rfl, rfl, rfl⟩)
--@hint swap.get(one[1], one[1]) => =(pe_dget2 (hu_of hr) $swap (pe_ix (k_ix K) $one pe_int (fun _ _ => rfl)) (pe_ix (k_ix K) $one pe_int (fun _ _ => rfl)) ⟨rfl, rfl, rfl, rfl⟩)
def swI (u v x : Int) : Int := if x = u then v else if x = v then u else x
def swP (u v : Int) (p : Int × Int) : Int × Int := (swI u v p.1, swI u v p.2)
theorem swI_inj {u v x y : Int} (h : swI u v x = swI u v y) : x = y := by
  unfold swI at h
  by_cases h1 : x = u <;> by_cases h2 : x = v <;> by_cases h3 : y = u <;> by_cases h4 : y = v <;> simp only [h1, h2, h3, h4, if_true, if_false] at h <;> omega
theorem swP_inj (u v : Int) {p q : Int × Int} (h : swP u v p = swP u v q) : p = q := by
  have h1 := congrArg Prod.fst h
  have h2 := congrArg Prod.snd h
  exact Prod.ext (swI_inj h1) (swI_inj h2)
theorem swI_in {u v x : Int} {N : Nat} (u0 : 0 ≤ u) (u1 : u < N) (v0 : 0 ≤ v) (v1 : v < N) (h0 : 0 ≤ x) (h1 : x < N) : 0 ≤ swI u v x ∧ swI u v x < N := by
  unfold swI
  split
  · exact ⟨v0, v1⟩
  · split
    · exact ⟨u0, u1⟩
    · exact ⟨h0, h1⟩
theorem swP_in {u v : Int} {N : Nat} {p : Int × Int} (u0 : 0 ≤ u) (u1 : u < N) (v0 : 0 ≤ v) (v1 : v < N) (h : 0 ≤ p.1 ∧ p.1 < N ∧ 0 ≤ p.2 ∧ p.2 < N) : 0 ≤ (swP u v p).1 ∧ (swP u v p).1 < N ∧ 0 ≤ (swP u v p).2 ∧ (swP u v p).2 < N := by
  obtain ⟨a, b⟩ := swI_in u0 u1 v0 v1 h.1 h.2.1
  obtain ⟨c, d⟩ := swI_in u0 u1 v0 v1 h.2.2.1 h.2.2.2
  exact ⟨a, b, c, d⟩
def f_law_changed : List M → Option Br
  | [.sto, .sh (.int n), .sh (.lst es)] => some ⟨∃ (N : Nat) (A : List (Int × Int)), n = (N : Int) ∧ es = A.map prE ∧ N ≤ 1000 ∧ A.Pairwise plt ∧ Within N A ∧ A.length ≤ 5000, fun m => ∀ (N : Nat) (A : List (Int × Int)), n = (N : Int) → es = A.map prE → ∃ B : List (Int × Int), m = .ow (B.map prE) ∧ B.Pairwise plt ∧ Within N B ∧ B.length ≤ A.length + 3, fun _ _ => False⟩
  | _ => none
theorem ok_law_changed (T : Txt K mg a d) : FnOk P w K mg base CX0 3 a.law_changed d.law_changed ["store", "n", "arrows"] (spC (ctF f_law_changed)) := by
  refine T.F_law_changed.ok sc_law_changed (fun vs H Q E h => spF_len (fun ms b hf => by unfold f_law_changed at hf; split at hf <;> first | rfl | cases hf) h) (fun cdv A outer s H vs Q E hr h => ⟨_, (pss_cons (ps_set (i := 3) sc_law_changed.nd rfl (by first | exact Or.inl rfl | exact Or.inr rfl) (pe_call (ok_law_take (P := P) T) (hr.mono (by omega)) rfl T.g_law_take T.F_law_take.kp T.b_law_take .nil pass0 (pa_cons (pv 0) (pa_cons pe_int pa_nil))))
      (pss_cons (ps_if (pt_cmpR op_lt (pv 1) pe_int (nomark _)) (pss_cons (ps_if (PW.pt (pw_and (pt_cmpR (k_eq K hr.units) (pv 1) pe_int (nomark _)) (pw_and1 (pt_cmpR op_gt (pv 3) pe_int (nomark _))))) (pss_one (ps_ret (pe_call (ok_law_toggled (P := P) T) (hr.mono (by omega)) rfl T.g_law_toggled T.F_law_toggled.kp T.b_law_toggled .nil pass0 (pa_cons (pv 2) (pa_cons (pe_tup (pa_cons pe_int (pa_cons pe_int pa_nil))) pa_nil))))) pss_nil)
      (pss_one (ps_ret (pe_callTy (k_list K) (by rfl) T.m_list bt_list (pa_cons (pv 2) pa_nil))))) pss_nil)
      (pss_cons (ps_set (i := 4) sc_law_changed.nd rfl (by first | exact Or.inl rfl | exact Or.inr rfl) (pe_call (ok_law_take (P := P) T) (hr.mono (by omega)) rfl T.g_law_take T.F_law_take.kp T.b_law_take .nil pass0 (pa_cons (pv 0) (pa_cons (pv 1) pa_nil))))
      (pss_cons (ps_set (i := 5) sc_law_changed.nd rfl (by first | exact Or.inl rfl | exact Or.inr rfl) (pe_call (ok_law_take (P := P) T) (hr.mono (by omega)) rfl T.g_law_take T.F_law_take.kp T.b_law_take .nil pass0 (pa_cons (pv 0) (pa_cons (pv 1) pa_nil))))
      (pss_cons (ps_if (pt_cmpR (k_eq K hr.units) (pv 3) pe_int (nomark _)) (pss_one (ps_ret (pe_call (ok_law_toggled (P := P) T) (hr.mono (by omega)) rfl T.g_law_toggled T.F_law_toggled.kp T.b_law_toggled .nil pass0 (pa_cons (pv 2) (pa_cons (pe_tup (pa_cons (pv 4) (pa_cons (pv 5) pa_nil))) pa_nil))))) pss_nil)
      (pss_cons (ps_if (pt_cmpR (k_eq K hr.units) (pv 3) pe_int (nomark _)) (pss_cons (ps_set (i := 7) sc_law_changed.nd rfl (by first | exact Or.inl rfl | exact Or.inr rfl) (pe_disp (pps_cons (pv 4) (pv 5) (pps_cons (pv 5) (pv 4) pps_nil)) (by rfl) (by rfl) (fun z => by cases z) (by decide)))
      (pss_one (ps_ret (pe_callB (k_sortD K hr.units) (by rfl) T.m_sorted bt_sorted (pa_cons (pe_lc (own := [("one", 8)]) (g := gName 8) (tt := tYes) rfl sc_law_changed.nd (pi_or (kp_list K (pv 2)) (kp_tup K (pv 2))) (blkOk_by (N := ["store", "n", "arrows", "kind", "u", "v", "other", "swap", "one"]) (sc := defScope s_law_changed) (by decide +kernel)) (fun _ _ _ _ _ => (pg_name (i := 8) sc_law_changed.nd rfl (by first | exact Or.inl rfl | exact Or.inr rfl))) (fun _ _ _ _ _ => pts_nil) (fun _ _ _ _ _ => (pe_tup (pa_cons (pe_dget2 (hu_of hr) (pv 7) (pe_ix (k_ix K) (pv 8) pe_int (fun _ _ => rfl)) (pe_ix (k_ix K) (pv 8) pe_int (fun _ _ => rfl)) ⟨rfl, rfl, rfl, rfl⟩) (pa_cons (pe_dget2 (hu_of hr) (pv 7) (pe_ix (k_ix K) (pv 8) pe_int (fun _ _ => rfl)) (pe_ix (k_ix K) (pv 8) pe_int (fun _ _ => rfl)) ⟨rfl, rfl, rfl, rfl⟩) pa_nil))))) pa_nil))))) pss_nil)
      (pss_cons (ps_if (pt_cmpR (k_eq K hr.units) (pv 4) (pv 5) (nomark _)) (pss_one (ps_set (i := 5) sc_law_changed.nd rfl (by first | exact Or.inl rfl | exact Or.inr rfl) (pe_op op_mod' (pe_callTy call_int1' (by rfl) T.m_int bt_int (pa_cons (pe_op (k_add K) (pv 4) pe_int) pa_nil)) (pv 1)))) pss_nil)
      (pss_cons (ps_set (i := 6) sc_law_changed.nd rfl (by first | exact Or.inl rfl | exact Or.inr rfl) (pe_call (ok_law_toggled (P := P) T) (hr.mono (by omega)) rfl T.g_law_toggled T.F_law_toggled.kp T.b_law_toggled .nil pass0 (pa_cons (pv 2) (pa_cons (pe_tup (pa_cons (pe_callB (call_max2' rfl) (by rfl) T.m_max bt_max (pa_cons (pv 4) (pa_cons (pv 5) pa_nil))) (pa_cons (pe_callB (call_min2' rfl) (by rfl) T.m_min bt_min (pa_cons (pv 4) (pa_cons (pv 5) pa_nil))) pa_nil))) pa_nil))))
      (pss_cons (ps_if (pt_cmpR (k_eq K hr.units) (pv 3) pe_int (nomark _)) (pss_one (ps_ret (pe_call (ok_law_toggled (P := P) T) (hr.mono (by omega)) rfl T.g_law_toggled T.F_law_toggled.kp T.b_law_toggled .nil pass0 (pa_cons (pv 6) (pa_cons (pe_tup (pa_cons (pe_call (ok_law_take (P := P) T) (hr.mono (by omega)) rfl T.g_law_take T.F_law_take.kp T.b_law_take .nil pass0 (pa_cons (pv 0) (pa_cons (pv 1) pa_nil))) (pa_cons (pe_call (ok_law_take (P := P) T) (hr.mono (by omega)) rfl T.g_law_take T.F_law_take.kp T.b_law_take .nil pass0 (pa_cons (pv 0) (pa_cons (pv 1) pa_nil))) pa_nil))) pa_nil))))) pss_nil)
      (pss_one (ps_ret (pv 6)))))))))))), p_bodyF h fun ms b hf hp => ?_⟩)
  unfold f_law_changed at hf
  split at hf
  rotate_right
  · cases hf
  · rename_i n es
    cases hf
    obtain ⟨N, A, rfl, rfl, hN, hA, hW, hAl⟩ := (show ∃ (N : Nat) (A : List (Int × Int)), n = (N : Int) ∧ es = A.map prE ∧ N ≤ 1000 ∧ A.Pairwise plt ∧ Within N A ∧ A.length ≤ 5000 from hp)
    have zl : sizeLine = 16777216 := sizeLine_eq
    have fin : ∀ B : List (Int × Int), B.Pairwise plt → Within N B → B.length ≤ A.length + 3 → ∀ (N' : Nat) (A' : List (Int × Int)), (N : Int) = (N' : Int) → A.map prE = A'.map prE → ∃ B' : List (Int × Int), M.ow (B.map prE) = .ow (B'.map prE) ∧ B'.Pairwise plt ∧ Within N' B' ∧ B'.length ≤ A'.length + 3 := fun B h1 h2 h3 N' A' e1 e2 => by
      obtain rfl := prE_inj e2
      obtain rfl : N = N' := by omega
      exact ⟨B, rfl, h1, h2, h3⟩
    have ext : ∀ {B C : List (Int × Int)} {u v : Int}, Within N B → 0 ≤ u → u < N → 0 ≤ v → v < N → (∀ q ∈ C, q ∈ B ∨ q = (u, v)) → Within N C := fun {B C u v} hB u0 u1 v0 v1 h q hq => by
      rcases h q hq with g | rfl
      · exact hB q g
      · exact ⟨u0, u1, v0, v1⟩
    refine p_seqC (fun ρ => ∃ kind : Int, ρ = [.sto, .sh (.int (N : Int)), .sh (.lst (A.map prE)), .sh (.int kind), .no, .no, .no, .no, .no]) ?_ ?_
    · row_hasAny pu
      exact ⟨_, rfl⟩
    rintro ρ ⟨kind, rfl⟩
    refine p_seqC (fun ρ => 2 ≤ N ∧ ρ = [.sto, .sh (.int (N : Int)), .sh (.lst (A.map prE)), .sh (.int kind), .no, .no, .no, .no, .no]) ?_ ?_
    · row_hasAny pu
      refine if_d (fun h => ?_) (fun h => ?_)
      · row_hasAny pu
        have self : ∀ (N' : Nat) (A' : List (Int × Int)), (N : Int) = (N' : Int) → A.map prE = A'.map prE → ∃ B' : List (Int × Int), M.ow (A.map prE) = .ow (B'.map prE) ∧ B'.Pairwise plt ∧ Within N' B' ∧ B'.length ≤ A'.length + 3 := fin A hA hW (by omega)
        refine if_d (fun h1 => ?_) (fun h1 => ?_)
        · row_hasAny pu
          refine if_d (fun h2 => ?_) (fun h2 => ?_)
          · row_hasAny pu
            refine u_tog hA (by omega) fun B g1 g2 g3 => ?_
            exact fin B g1 (ext hW (by omega) (by omega) (by omega) (by omega) g3) (by omega)
          · row_hasAny pu
            exact self
        · row_hasAny pu
          exact self
      · row_hasAny pu
        exact ⟨by omega, rfl⟩
    rintro ρ ⟨hN2, rfl⟩
    refine p_seqC (fun ρ => ∃ u : Int, 0 ≤ u ∧ u < N ∧ ρ = [.sto, .sh (.int (N : Int)), .sh (.lst (A.map prE)), .sh (.int kind), .sh (.int u), .no, .no, .no, .no]) ?_ ?_
    · row_hasAny pu
      rename_i t t0 t1
      exact ⟨t, t0, by omega, rfl⟩
    rintro ρ ⟨u, u0, u1, rfl⟩
    refine p_seqC (fun ρ => ∃ v : Int, 0 ≤ v ∧ v < N ∧ ρ = [.sto, .sh (.int (N : Int)), .sh (.lst (A.map prE)), .sh (.int kind), .sh (.int u), .sh (.int v), .no, .no, .no]) ?_ ?_
    · row_hasAny pu
      rename_i t t0 t1
      exact ⟨t, t0, by omega, rfl⟩
    rintro ρ ⟨v, v0, v1, rfl⟩
    refine p_seqC (fun ρ => ρ = [.sto, .sh (.int (N : Int)), .sh (.lst (A.map prE)), .sh (.int kind), .sh (.int u), .sh (.int v), .no, .no, .no]) ?_ ?_
    · row_hasAny pu
      refine if_d (fun h => ?_) (fun h => ?_)
      · row_hasAny pu
        refine u_tog hA (by omega) fun B h1 h2 h3 => ?_
        exact fin B h1 (ext hW u0 u1 v0 v1 h3) (by omega)
      · row_hasAny pu
        exact rfl
    rintro ρ rfl
    refine p_seqC (fun ρ => ρ = [.sto, .sh (.int (N : Int)), .sh (.lst (A.map prE)), .sh (.int kind), .sh (.int u), .sh (.int v), .no, .no, .no]) ?_ ?_
    · row_hasAny pu
      refine if_d (fun h => ?_) (fun h => ?_)
      · refine p_seqC (fun ρ => ρ = [.sto, .sh (.int (N : Int)), .sh (.lst (A.map prE)), .sh (.int kind), .sh (.int u), .sh (.int v), .no, .od (swE u v), .no]) ?_ ?_
        · refine q_asg ?_
          refine p_dispSw rfl rfl ?_
          refine p_gname ?_
          exact rfl
        rintro ρ rfl
        refine p_frS 7 rfl nofun ?_
        refine p_envS [.sto, .sh (.int (N : Int)), .sh (.lst (A.map prE)), .sh (.int kind), .sh (.int u), .sh (.int v), .no, .sh (.dic (swE u v)), .no] rfl ?_
        row_hasAny pu
        refine p_lc (fun L j acc => L = A.map prE ∧ acc = ((A.take j).map (swP u v)).map prE) ?_
        refine p_iseq rfl rfl trivial ?_
        row_hasAny pu
        refine ⟨by rw [List.length_map]; omega, ⟨rfl, rfl⟩, ?_, ?_⟩
        · rintro j e acc he ⟨_, rfl⟩
          rw [List.getElem?_map] at he
          obtain ⟨q, hq, rfl⟩ := Option.map_eq_some_iff.mp he
          rw [show prE q = Pl.E.tup [.int q.1, .int q.2] from rfl]
          row_hasAny pu
          refine p_dget2 ?_
          row_hasAny pu
          refine ⟨_, rfl, ?_⟩
          row_hasAny pu
          refine ⟨.inl q.1, rfl, ?_⟩
          row_hasAny pu
          refine p_dget2 ?_
          row_hasAny pu
          refine ⟨_, rfl, ?_⟩
          row_hasAny pu
          refine ⟨.inl q.2, rfl, ?_⟩
          row_hasAny pu
          refine ⟨rfl, _, rfl, rfl, ?_⟩
          rw [sw_get, sw_get, List.take_add_one, hq, List.map_append, List.map_append]
          rfl
        · rintro acc ⟨_, rfl⟩
          rw [List.length_map, List.take_length]
          row_hasAny pu
          refine v_sortP ?_
          rw [sortP_arrS (List.pairwise_map.mpr ((plt_nd hA).imp fun {p q} h e => h (swP_inj u v e)))]
          refine fin _ (arrS_asc _) (fun q hq => ?_) (Nat.le_trans (arrS_le' _) (by rw [List.length_map]; omega))
          obtain ⟨p, hp, rfl⟩ := List.mem_map.mp (mem_arrS.mp hq)
          exact swP_in u0 u1 v0 v1 (hW p hp)
      · row_hasAny pu
        exact rfl
    rintro ρ rfl
    refine p_seqC (fun ρ => ∃ v : Int, 0 ≤ v ∧ v < N ∧ ρ = [.sto, .sh (.int (N : Int)), .sh (.lst (A.map prE)), .sh (.int kind), .sh (.int u), .sh (.int v), .no, .no, .no]) ?_ ?_
    · row_hasAny pu
      refine if_d (fun h => ?_) (fun h => ?_)
      · row_hasAny pu
        exact ⟨_, Int.emod_nonneg _ (by omega), Int.emod_lt_of_pos _ (by omega), rfl⟩
      · row_hasAny pu
        exact ⟨v, v0, v1, rfl⟩
    rintro ρ ⟨v, v0, v1, rfl⟩
    refine p_seqC (fun ρ => ∃ B : List (Int × Int), B.Pairwise plt ∧ Within N B ∧ B.length ≤ A.length + 1 ∧ ρ = [.sto, .sh (.int (N : Int)), .sh (.lst (A.map prE)), .sh (.int kind), .sh (.int u), .sh (.int v), .ow (B.map prE), .no, .no]) ?_ ?_
    · row_hasAny pu
      refine u_tog hA (by omega) fun B g1 g2 g3 => ?_
      refine p_gname ?_
      exact ⟨B, g1, ext hW (by split <;> omega) (by split <;> omega) (by split <;> omega) (by split <;> omega) g3, g2, rfl⟩
    rintro ρ ⟨B, hB, hBW, hBl, rfl⟩
    row_hasAny pu
    refine if_d (fun h => ?_) (fun h => ?_)
    · refine p_frS 6 rfl nofun ?_
      row_hasAny pu
      rename_i t t0 t1 r r0 r1
      refine u_tog hB (by omega) fun C g1 g2 g3 => ?_
      exact fin C g1 (ext hBW (by omega) (by omega) (by omega) (by omega) g3) (by omega)
    · row_hasAny pu
      exact fin B hB hBW (by omega)

/-! ### _law_ask_web -/
--@used x BadOrder
--@used x TooMany
--@used x HueError
--@used g BadNumber
--@used g BadWeb
def f_law_ask_web (K : PySem.W.Frag) (a : Ad) : List M → Option Br
  | [.sh e] => some (brs (ordOr K a e) fun R => (isOf K a.Order e false → R (.sh (.tup [.str "BadOrder", .non, .bl true]))) ∧ ∀ rs, OrdT rs → e = ordE a rs → (2000 < (raF rs.length (bt rs)).length → R (.sh (.tup [.str "TooMany", .int 2000, .bl true]))) ∧ ((raF rs.length (bt rs)).length ≤ 2000 → ∀ ks, Wb rs.length ks (raF rs.length (bt rs)) → R (.sh (.ob a.Web (webF rs.length ks (raF rs.length (bt rs)))))))
  | _ => none
theorem ok_law_ask_web (T : Txt K mg a d) : FnOk P w K mg base CX0 9 a.law_ask_web d.law_ask_web ["order"] (spC (ctF (f_law_ask_web K a))) := by
  refine T.F_law_ask_web.ok sc_law_ask_web (fun vs H Q E h => spF_len (fun ms b hf => by unfold f_law_ask_web at hf; split at hf <;> first | rfl | cases hf) h) (fun cdv A outer s H vs Q E hr h => ⟨_, (pss_one (ps_try_cls rfl rfl takes0 (fun W pn xe tk _ => (pss_one (ps_ret (pe_callS (ok_order_web (P := P) T) (hr.mono (by omega)) rfl T.g_order_web T.F_order_web.kp T.b_order_web (fun σ => passAt tk σ) (pa_cons (pv 0) pa_nil)))))
      (ClsOk.consAs (i := 1) sc_law_ask_web.nd rfl rfl ⟨rfl, by decide, .inl T.g_BadOrder⟩ (fun ea eo ec ed pn hz hf => (pss_one (ps_ret (pe_tup (pa_cons pe_str (pa_cons (pe_xf T.e_BadOrder.xf T.nf_BadOrder_bad_at hz hf (pv 1)) (pa_cons (pe_and (pe_callB (k_isX K hz hf) (by rfl) T.m_isinstance bt_isinstance (pa_cons (pv 1) (pa_cons (pe_glob (v := .ref a.HueError) rfl T.g_HueError rfl) pa_nil))) (pe_one (pe_not (pe_callB (k_isX K hz hf) (by rfl) T.m_isinstance bt_isinstance (pa_cons (pv 1) (pa_cons (pe_tup (pa_cons (pe_glob (v := .ref a.BadWeb) rfl T.g_BadWeb rfl) (pa_cons (pe_glob (v := .ref a.BadNumber) rfl T.g_BadNumber rfl) (pa_cons (pe_glob (v := .ref a.TooMany) rfl T.g_TooMany rfl) pa_nil)))) pa_nil)))))) pa_nil)))))))
      (ClsOk.consAs (i := 1) sc_law_ask_web.nd rfl rfl ⟨rfl, by decide, .inl T.g_TooMany⟩ (fun ea eo ec ed pn hz hf => (pss_one (ps_ret (pe_tup (pa_cons pe_str (pa_cons (pe_xf T.e_TooMany.xf T.nf_TooMany_most hz hf (pv 1)) (pa_cons (pe_and (pe_callB (k_isX K hz hf) (by rfl) T.m_isinstance bt_isinstance (pa_cons (pv 1) (pa_cons (pe_glob (v := .ref a.HueError) rfl T.g_HueError rfl) pa_nil))) (pe_one (pe_not (pe_callB (k_isX K hz hf) (by rfl) T.m_isinstance bt_isinstance (pa_cons (pv 1) (pa_cons (pe_tup (pa_cons (pe_glob (v := .ref a.BadWeb) rfl T.g_BadWeb rfl) (pa_cons (pe_glob (v := .ref a.BadNumber) rfl T.g_BadNumber rfl) (pa_cons (pe_glob (v := .ref a.BadOrder) rfl T.g_BadOrder rfl) pa_nil)))) pa_nil)))))) pa_nil)))))))
      (ClsOk.cons ⟨rfl, by decide, .inl T.g_HueError⟩ (fun ea eo ec ed pn hz hf => (pss_one (ps_ret (pe_tup (pa_cons pe_str (pa_cons pe_non (pa_cons pe_bl pa_nil)))))))
      ClsOk.nil))))), p_bodyF h fun ms b hf hp => ?_⟩)
  unfold f_law_ask_web at hf
  split at hf
  rotate_right
  · cases hf
  · rename_i e
    cases hf
    have ho : ordOr K a e := hp
    have x0 := T.e_BadOrder
    have x1 := T.kit_BadOrder_HueError
    have x2 := T.kit_BadOrder_BadWeb
    have x3 := T.kit_BadOrder_BadNumber
    have x4 := T.kit_BadOrder_TooMany
    have y0 := T.e_TooMany
    have y1 := T.kit_TooMany_HueError
    have y2 := T.kit_TooMany_BadWeb
    have y3 := T.kit_TooMany_BadNumber
    have y5 := T.kit_TooMany_BadOrder
    refine p_try0 (Qx := fun ρ cls xd => ρ = [.sh e, .no] ∧ ((isOf K a.Order e false ∧ cls = .ref a.BadOrder ∧ xd = .one "bad_at" .non) ∨ ∃ rs, OrdT rs ∧ e = ordE a rs ∧ 2000 < (raF rs.length (bt rs)).length ∧ cls = .ref a.TooMany ∧ xd = .one "most" (.int 2000))) (fun W => ?_) ?_
    · row_hasAny pu
      refine ⟨_, rfl, ho, fun cls xd h => ⟨rfl, h⟩, fun m hm => ?_⟩
      obtain ⟨rs, ks, O, rfl, h2000, rfl, hW⟩ := hm
      exact fun R k => (k.2 rs O rfl).2 h2000 ks hW
    · rintro ρ cls xd ⟨rfl, ⟨hi, rfl, rfl⟩ | ⟨rs, O, rfl, hi, rfl, rfl⟩⟩
      · refine hit T.exm_BadOrder_BadOrder fun ea d hd => ?_
        obtain ⟨dd, rfl⟩ := hd
        row_hasAny pu
        exact fun R k => k.1 hi
      · refine miss T.exm_TooMany_BadOrder ?_
        refine hit T.exm_TooMany_TooMany fun ea d hd => ?_
        obtain ⟨dd, rfl⟩ := hd
        row_hasAny pu
        exact fun R k => (k.2 rs O rfl).1 hi
theorem u_aw {K : PySem.W.Frag} {a : Ad} {rs : List Nat} {R : M → Prop} (O : OrdT rs) (iso : isOf K a.Order (ordE a rs) true) (k1 : 2000 < (raF rs.length (bt rs)).length → R (.sh (.tup [.str "TooMany", .int 2000, .bl true]))) (k2 : (raF rs.length (bt rs)).length ≤ 2000 → ∀ ks, Wb rs.length ks (raF rs.length (bt rs)) → R (.sh (.ob a.Web (webF rs.length ks (raF rs.length (bt rs)))))) : ∃ b, f_law_ask_web K a [.sh (ordE a rs)] = some b ∧ b.pre ∧ (∀ cls xd, ¬ b.xp cls xd) ∧ ∀ r, b.post r → R r := by
  refine cbS rfl (.inl ⟨rs, O, rfl⟩) ⟨fun h => absurd (iso_fun iso h) (by decide), fun qs _ e => ?_⟩
  obtain rfl := ordJ e
  exact ⟨k1, k2⟩
theorem u_awO {K : PySem.W.Frag} {a : Ad} {e : Pl.E} {R : M → Prop} (hi : InsK K a.Order) (iso : isOf K a.Order e false) (k : R (.sh (.tup [.str "BadOrder", .non, .bl true]))) : ∃ b, f_law_ask_web K a [.sh e] = some b ∧ b.pre ∧ (∀ cls xd, ¬ b.xp cls xd) ∧ ∀ r, b.post r → R r := by
  refine cbS rfl (.inr iso) ⟨fun _ => k, fun qs _ e => ?_⟩
  subst e
  exact absurd (iso_fun iso (iso_self hi)) (by decide)

/-! ### _law_ask_order -/
--@used x BadWeb
--@used x HueError
--@used g BadNumber
--@used g BadOrder
--@used g TooMany
def f_law_ask_order (K : PySem.W.Frag) (a : Ad) : List M → Option Br
  | [.sh e] => some (brs (webOr K a e) fun R => (isOf K a.Web e false → R (.sh (.tup [.str "BadWeb", .non, .bl true]))) ∧ ∀ n ks As, Wb n ks As → e = .ob a.Web (webF n ks As) → (¬ owP n As → R (.sh (.tup [.str "BadWeb", .non, .bl true]))) ∧ (owP n As → ∀ rs, OrdT rs → rs.length = n → (∀ x y, x < n → y < n → bt rs x y = tF As x y) → R (.sh (ordE a rs))))
  | _ => none
theorem ok_law_ask_order (T : Txt K mg a d) : FnOk P w K mg base CX0 10 a.law_ask_order d.law_ask_order ["web"] (spC (ctF (f_law_ask_order K a))) := by
  refine T.F_law_ask_order.ok sc_law_ask_order (fun vs H Q E h => spF_len (fun ms b hf => by unfold f_law_ask_order at hf; split at hf <;> first | rfl | cases hf) h) (fun cdv A outer s H vs Q E hr h => ⟨_, (pss_one (ps_try_cls rfl rfl takes0 (fun W pn xe tk _ => (pss_one (ps_ret (pe_callS (ok_order_of_web (P := P) T) (hr.mono (by omega)) rfl T.g_order_of_web T.F_order_of_web.kp T.b_order_of_web (fun σ => passAt tk σ) (pa_cons (pv 0) pa_nil)))))
      (ClsOk.consAs (i := 1) sc_law_ask_order.nd rfl rfl ⟨rfl, by decide, .inl T.g_BadWeb⟩ (fun ea eo ec ed pn hz hf => (pss_one (ps_ret (pe_tup (pa_cons pe_str (pa_cons (pe_xf T.e_BadWeb.xf T.nf_BadWeb_bad_at hz hf (pv 1)) (pa_cons (pe_and (pe_callB (k_isX K hz hf) (by rfl) T.m_isinstance bt_isinstance (pa_cons (pv 1) (pa_cons (pe_glob (v := .ref a.HueError) rfl T.g_HueError rfl) pa_nil))) (pe_one (pe_not (pe_callB (k_isX K hz hf) (by rfl) T.m_isinstance bt_isinstance (pa_cons (pv 1) (pa_cons (pe_tup (pa_cons (pe_glob (v := .ref a.BadOrder) rfl T.g_BadOrder rfl) (pa_cons (pe_glob (v := .ref a.BadNumber) rfl T.g_BadNumber rfl) (pa_cons (pe_glob (v := .ref a.TooMany) rfl T.g_TooMany rfl) pa_nil)))) pa_nil)))))) pa_nil)))))))
      (ClsOk.cons ⟨rfl, by decide, .inl T.g_HueError⟩ (fun ea eo ec ed pn hz hf => (pss_one (ps_ret (pe_tup (pa_cons pe_str (pa_cons pe_non (pa_cons pe_bl pa_nil)))))))
      ClsOk.nil)))), p_bodyF h fun ms b hf hp => ?_⟩)
  unfold f_law_ask_order at hf
  split at hf
  rotate_right
  · cases hf
  · rename_i e
    cases hf
    have ho : webOr K a e := hp
    have x0 := T.e_BadWeb
    have x1 := T.kit_BadWeb_HueError
    have x2 := T.kit_BadWeb_BadOrder
    have x3 := T.kit_BadWeb_BadNumber
    have x4 := T.kit_BadWeb_TooMany
    refine p_try0 (Qx := fun ρ cls xd => ρ = [.sh e, .no] ∧ cls = .ref a.BadWeb ∧ xd = .one "bad_at" .non ∧ (isOf K a.Web e false ∨ ∃ n ks As, Wb n ks As ∧ e = .ob a.Web (webF n ks As) ∧ ¬ owP n As)) (fun W => ?_) ?_
    · row_hasAny pu
      refine ⟨_, rfl, ho, fun cls xd h => ⟨rfl, h⟩, fun m hm => ?_⟩
      obtain ⟨n, ks, As, rs, rfl, hW, how, O, hl, hb, rfl⟩ := hm
      exact fun R k => (k.2 n ks As hW rfl).2 how rs O hl hb
    · rintro ρ cls xd ⟨rfl, rfl, rfl, hi⟩
      refine hit T.exm_BadWeb_BadWeb fun ea d hd => ?_
      obtain ⟨dd, rfl⟩ := hd
      row_hasAny pu
      rcases hi with hi | ⟨n, ks, As, hW, rfl, how⟩
      · exact fun R k => k.1 hi
      · exact fun R k => (k.2 n ks As hW rfl).1 how
theorem u_ao {K : PySem.W.Frag} {a : Ad} {n : Nat} {ks As : List (Int × Int)} {R : M → Prop} (hW : Wb n ks As) (iso : isOf K a.Web (.ob a.Web (webF n ks As)) true) (k1 : ¬ owP n As → R (.sh (.tup [.str "BadWeb", .non, .bl true]))) (k2 : owP n As → ∀ rs, OrdT rs → rs.length = n → (∀ x y, x < n → y < n → bt rs x y = tF As x y) → R (.sh (ordE a rs))) : ∃ b, f_law_ask_order K a [.sh (.ob a.Web (webF n ks As))] = some b ∧ b.pre ∧ (∀ cls xd, ¬ b.xp cls xd) ∧ ∀ r, b.post r → R r := by
  refine cbS rfl (.inl ⟨n, ks, As, hW, rfl⟩) ⟨fun h => absurd (iso_fun iso h) (by decide), fun m js Bs hW2 e => ?_⟩
  obtain ⟨rfl, rfl⟩ := webF_inj hW hW2 e
  exact ⟨k1, k2⟩
theorem u_aoO {K : PySem.W.Frag} {a : Ad} {e : Pl.E} {R : M → Prop} (hi : InsK K a.Web) (iso : isOf K a.Web e false) (k : R (.sh (.tup [.str "BadWeb", .non, .bl true]))) : ∃ b, f_law_ask_order K a [.sh e] = some b ∧ b.pre ∧ (∀ cls xd, ¬ b.xp cls xd) ∧ ∀ r, b.post r → R r := by
  refine cbS rfl (.inr iso) ⟨fun _ => k, fun m js Bs hW2 e => ?_⟩
  subst e
  exact absurd (iso_fun iso (iso_self hi)) (by decide)
theorem u_iow {K : PySem.W.Frag} {a : Ad} {n : Nat} {ks As : List (Int × Int)} {R : M → Prop} (hW : Wb n ks As) (iso : isOf K a.Web (.ob a.Web (webF n ks As)) true) (k1 : ¬ owP n As → R (.sh (.bl false))) (k2 : owP n As → R (.sh (.bl true))) : ∃ b, f_is_order_web K a [.sh (.ob a.Web (webF n ks As))] = some b ∧ b.pre ∧ (∀ cls xd, ¬ b.xp cls xd) ∧ ∀ r, b.post r → R r := by
  refine cbS rfl (.inl ⟨n, ks, As, hW, rfl⟩) ⟨fun h => absurd (iso_fun iso h) (by decide), fun m js Bs hW2 e => ?_⟩
  obtain ⟨rfl, rfl⟩ := webF_inj hW hW2 e
  exact ⟨k2, k1⟩
theorem u_iowO {K : PySem.W.Frag} {a : Ad} {e : Pl.E} {R : M → Prop} (hi : InsK K a.Web) (iso : isOf K a.Web e false) (k : R (.sh (.bl false))) : ∃ b, f_is_order_web K a [.sh e] = some b ∧ b.pre ∧ (∀ cls xd, ¬ b.xp cls xd) ∧ ∀ r, b.post r → R r := by
  refine cbS rfl (.inr iso) ⟨fun _ => k, fun m js Bs hW2 e => ?_⟩
  subst e
  exact absurd (iso_fun iso (iso_self hi)) (by decide)

/-! ### _law_is_order -/
--@used o Order
--@hint len(told) => own Order
theorem u_aob {K : PySem.W.Frag} {a : Ad} {rs : List Nat} {x y : Nat} {R : M → Prop} {S : Value → XD → Prop} (O : OrdT rs) (hx : x < rs.length) (hy : y < rs.length) (k : R (.sh (.bl (bt rs x y)))) : ∃ b, f_Order_at_or_below K a [.sh (ordE a rs), .sh (.int (x : Int)), .sh (.int (y : Int))] = some b ∧ b.pre ∧ (∀ cls xd, b.xp cls xd → S cls xd) ∧ ∀ r, b.post r → R r := by
  refine ⟨_, rfl, ⟨⟨rfl, rfl, rs, rfl, O⟩, trivial, trivial⟩, fun cls xd h => ?_, fun r hr => ?_⟩
  · have h := h.2.2
    rw [List.length_map, inRE_in (by omega) (by omega), inRE_in (by omega) (by omega)] at h
    rcases h with h | h <;> cases h
  · obtain ⟨x', y', e1, e2, _, _, rfl⟩ := hr
    obtain rfl : x = x' := by have := Pl.E.int.inj e1; omega
    obtain rfl : y = y' := by have := Pl.E.int.inj e2; omega
    rw [natsL_nat]
    exact k
theorem nice_bl (b : Bool) : Pl.plain (.bl b) = true ∧ dep (.bl b) < 72 := ⟨rfl, by show 0 < 72; decide⟩
def f_law_is_order (K : PySem.W.Frag) (a : Ad) : List M → Option Br
  | [.sh (.ob C [(f, .lst es)]), .sh (.lst ts)] => some (brp (OrdO a.Order C f es ∧ ts = (tab (natsL es).length (bt (natsL es))).map Pl.E.lst) (.sh (.bl true)))
  | _ => none
theorem ok_law_is_order (T : Txt K mg a d) : FnOk P w K mg base CX0 75 a.law_is_order d.law_is_order ["told", "below"] (spC (ctF (f_law_is_order K a))) := by
  refine T.F_law_is_order.ok sc_law_is_order (fun vs H Q E h => spF_len (fun ms b hf => by unfold f_law_is_order at hf; split at hf <;> first | rfl | cases hf) h) (fun cdv A outer s H vs Q E hr h => ⟨_, (pss_cons (ps_set (i := 2) sc_law_is_order.nd rfl (by first | exact Or.inl rfl | exact Or.inr rfl) (pe_callB (k_len K) (by rfl) T.m_len bt_len (pa_cons (pv 1) pa_nil)))
      (pss_cons (ps_if (PW.pt (pw_or (pt_not (pt_val (pe_callB (k_isi K) (by rfl) T.m_isinstance bt_isinstance (pa_cons (pv 0) (pa_cons (pe_glob (v := .ref a.Order) rfl T.g_Order rfl) pa_nil))))) (pw_or (pt_not (pt_val (pe_call (ok_law_same (P := P) T 72) (hr.mono (by omega)) rfl T.g_law_same T.F_law_same.kp T.b_law_same .nil pass0 (pa_cons (pe_prop (pv 0) T.is_Order.cl T.pr_Order_size (ok_Order_size (P := P) T) (hr.mono (by omega)) T.b_Order_size .nil pass0 rfl) (pa_cons (pv 2) pa_nil))))) (pw_or1 (pt_not (pt_val (pe_call (ok_law_same (P := P) T 72) (hr.mono (by omega)) rfl T.g_law_same T.F_law_same.kp T.b_law_same .nil pass0 (pa_cons (pe_callB (call_lenI T.mt_Order__len__ (ok_Order__len__ (P := P) T) (hr.mono (by omega)) T.b_Order__len__) (by rfl) T.m_len bt_len (pa_cons (pv 0) pa_nil)) (pa_cons (pv 2) pa_nil))))))))) (pss_one (ps_ret pe_bl)) pss_nil)
      (pss_cons (ps_for PassesOwn.never rfl (pi_range1 rfl T.m_range (pa_cons (pv 2) pa_nil)) (pg_name (i := 3) sc_law_is_order.nd rfl (by first | exact Or.inl rfl | exact Or.inr rfl)) (pss_one (ps_for PassesOwn.never rfl (pi_range1 rfl T.m_range (pa_cons (pv 2) pa_nil)) (pg_name (i := 4) sc_law_is_order.nd rfl (by first | exact Or.inl rfl | exact Or.inr rfl)) (pss_one (ps_if (pt_not (pt_val (pe_call (ok_law_same (P := P) T 72) (hr.mono (by omega)) rfl T.g_law_same T.F_law_same.kp T.b_law_same .nil pass0 (pa_cons (pe_meth (pv 0) T.is_Order.cl T.mt_Order_at_or_below (ok_Order_at_or_below (P := P) T) (hr.mono (by omega)) T.b_Order_at_or_below .nil passL (pa_cons (pv 3) (pa_cons (pv 4) pa_nil))) (pa_cons (pe_ix (k_ix K) (pe_ix (k_ix K) (pv 1) (pv 3) (fun _ _ => rfl)) (pv 4) (fun _ _ => rfl)) pa_nil))))) (pss_one (ps_ret pe_bl)) pss_nil)))))
      (pss_one (ps_ret (pe_or (pe_cmpR op_gt (pv 2) pe_int (nomark _)) (pe_one (pe_call (ok_law_same (P := P) T 72) (hr.mono (by omega)) rfl T.g_law_same T.F_law_same.kp T.b_law_same .nil pass0 (pa_cons (pe_prop (pv 0) T.is_Order.cl T.pr_Order_covers (ok_Order_covers (P := P) T) (hr.mono (by omega)) T.b_Order_covers .nil pass0 rfl) (pa_cons (pe_call (ok_law_covers (P := P) T) (hr.mono (by omega)) rfl T.g_law_covers T.F_law_covers.kp T.b_law_covers .nil pass0 (pa_cons (pv 1) pa_nil)) pa_nil)))))))))), p_bodyF h fun ms b hf hp => ?_⟩)
  unfold f_law_is_order at hf
  split at hf
  rotate_right
  · cases hf
  · rename_i C f es ts
    cases hf
    obtain ⟨⟨rfl, rfl, rs, rfl, O⟩, rfl⟩ := (show OrdO a.Order C f es ∧ ts = (tab (natsL es).length (bt (natsL es))).map Pl.E.lst from hp)
    rw [natsL_nat] at *
    have zl : sizeLine = 16777216 := sizeLine_eq
    have iso : isOf K a.Order (ordE a rs) true := iso_self T.is_Order
    have oo : OrdO a.Order a.Order "_reach" (rs.map natE) := ⟨rfl, rfl, rs, rfl, O⟩
    have hz := O.len
    have hl : (rs.map natE).length = rs.length := List.length_map ..
    have hTl : ((tab rs.length (bt rs)).map Pl.E.lst).length = rs.length := by rw [List.length_map, tab_len]
    have row : ∀ i, i < rs.length → ((tab rs.length (bt rs)).map Pl.E.lst)[i]? = some (.lst (rowB rs.length (bt rs i))) := fun i hi => by rw [List.getElem?_map, tab_at hi]; rfl
    refine p_absX fun Qx => ?_
    refine p_seqC (fun ρ => ρ = [.sh (ordE a rs), .sh (.lst ((tab rs.length (bt rs)).map .lst)), .sh (.int (rs.length : Int)), .no, .no]) ?_ ?_
    · row_hasAny pu
      rw [hTl]
      exact rfl
    rintro ρ rfl
    refine p_seqC (fun ρ => ρ = [.sh (ordE a rs), .sh (.lst ((tab rs.length (bt rs)).map .lst)), .sh (.int (rs.length : Int)), .no, .no]) ?_ ?_
    · row_hasAny pu
      refine cb1 rfl ⟨rfl, rfl⟩ ?_
      row_hasAny pu
      refine u_same (by rw [hl]) ⟨rfl, by show 0 < 72; decide⟩ ?_
      row_hasAny pu
      refine v_lenI (g := f_Order__len__ a) rfl ⟨rfl, rfl⟩ (by omega) (by omega) ?_
      row_hasAny pu
      refine u_same (by rw [hl]) ⟨rfl, by show 0 < 72; decide⟩ ?_
      row_hasAny pu
      exact rfl
    rintro ρ rfl
    refine p_seqC (fun ρ => ∃ z3 z4 : M, ρ = [.sh (ordE a rs), .sh (.lst ((tab rs.length (bt rs)).map .lst)), .sh (.int (rs.length : Int)), z3, z4]) ?_ ?_
    · refine q_for (fun L i ρ => L.length = rs.length ∧ ∃ z3 z4 : M, ρ = [.sh (ordE a rs), .sh (.lst ((tab rs.length (bt rs)).map .lst)), .sh (.int (rs.length : Int)), z3, z4]) ?_
      row_hasAny pu
      refine ⟨⟨by rw [rng_len]; omega, _, _, rfl⟩, ?_, ?_⟩
      · rintro i e ρ he ⟨hL, z3, z4, rfl⟩
        have hi := (List.getElem?_eq_some_iff.mp he).1
        rw [hL] at hi
        obtain ⟨_, rfl⟩ := rng_at he
        rw [Int.zero_add]
        row_hasAny pu
        refine q_for (fun L j ρ => L.length = rs.length ∧ ∃ z4 : M, ρ = [.sh (ordE a rs), .sh (.lst ((tab rs.length (bt rs)).map .lst)), .sh (.int (rs.length : Int)), .sh (.int (i : Int)), z4]) ?_
        row_hasAny pu
        refine ⟨⟨by rw [rng_len]; omega, _, rfl⟩, ?_, ?_⟩
        · rintro j x ρ hx ⟨hL2, z4, rfl⟩
          have hj := (List.getElem?_eq_some_iff.mp hx).1
          rw [hL2] at hj
          obtain ⟨_, rfl⟩ := rng_at hx
          rw [Int.zero_add]
          row_hasAny pu
          refine u_aob O hi hj ?_
          row_hasAny pu
          refine v_ixL (atI_nat' (row i hi)) ?_
          row_hasAny pu
          refine v_ixL (atI_nat' (rowB_at hj)) ?_
          row_hasAny pu
          refine u_same rfl (nice_bl _) ?_
          row_hasAny pu
          exact ⟨hL2, _, rfl⟩
        · rintro ρ ⟨hL2, z4, rfl⟩
          exact ⟨hL, _, _, rfl⟩
      · rintro ρ ⟨hL, z3, z4, rfl⟩
        exact ⟨_, _, rfl⟩
    rintro ρ ⟨z3, z4, rfl⟩
    row_hasAny pu
    refine if_d (fun h => ?_) (fun h => ?_)
    · row_hasAny pu
      exact rfl
    · row_hasAny pu
      refine u_covers O.len ?_
      rw [cov_tab O, natsL_nat, hl]
      row_hasAny pu
      refine u_same rfl (pairs_nice _) ?_
      row_hasAny pu
      exact rfl
theorem u_iso {K : PySem.W.Frag} {a : Ad} {rs : List Nat} {R : M → Prop} (O : OrdT rs) (k : R (.sh (.bl true))) : ∃ b, f_law_is_order K a [.sh (ordE a rs), .sh (.lst ((tab rs.length (bt rs)).map .lst))] = some b ∧ b.pre ∧ (∀ cls xd, ¬ b.xp cls xd) ∧ ∀ r, b.post r → R r :=
  cb1 rfl ⟨⟨rfl, rfl, rs, rfl, O⟩, by rw [natsL_nat]⟩ k

/-! ### _law_is_web -/
--@used o Web
def f_law_is_web (K : PySem.W.Frag) (a : Ad) : List M → Option Br
  | [.sh w, .sh (.int n), .sh (.lst es)] => some (brp (∃ N ks As, w = .ob a.Web (webF N ks As) ∧ Wb N ks As ∧ n = (N : Int) ∧ es = As.map prE) (.sh (.bl true)))
  | _ => none
theorem ok_law_is_web (T : Txt K mg a d) : FnOk P w K mg base CX0 75 a.law_is_web d.law_is_web ["told", "n", "arrows"] (spC (ctF (f_law_is_web K a))) := by
  refine T.F_law_is_web.ok sc_law_is_web (fun vs H Q E h => spF_len (fun ms b hf => by unfold f_law_is_web at hf; split at hf <;> first | rfl | cases hf) h) (fun cdv A outer s H vs Q E hr h => ⟨_, (pss_one (ps_ret (pe_and (pe_callB (k_isi K) (by rfl) T.m_isinstance bt_isinstance (pa_cons (pv 0) (pa_cons (pe_glob (v := .ref a.Web) rfl T.g_Web rfl) pa_nil))) (pe_and (pe_call (ok_law_same (P := P) T 72) (hr.mono (by omega)) rfl T.g_law_same T.F_law_same.kp T.b_law_same .nil pass0 (pa_cons (pe_prop (pv 0) T.is_Web.cl T.pr_Web_places (ok_Web_places (P := P) T) (hr.mono (by omega)) T.b_Web_places .nil pass0 rfl) (pa_cons (pv 1) pa_nil))) (pe_one (pe_call (ok_law_same (P := P) T 72) (hr.mono (by omega)) rfl T.g_law_same T.F_law_same.kp T.b_law_same .nil pass0 (pa_cons (pe_prop (pv 0) T.is_Web.cl T.pr_Web_arrows (ok_Web_arrows (P := P) T) (hr.mono (by omega)) T.b_Web_arrows .nil pass0 rfl) (pa_cons (pv 2) pa_nil)))))))), p_bodyF h fun ms b hf hp => ?_⟩)
  unfold f_law_is_web at hf
  split at hf
  rotate_right
  · cases hf
  · rename_i w n es
    cases hf
    obtain ⟨N, ks, As, rfl, hWb, rfl, rfl⟩ := (show ∃ N ks As, w = .ob a.Web (webF N ks As) ∧ Wb N ks As ∧ n = (N : Int) ∧ es = As.map prE from hp)
    have iso : isOf K a.Web (.ob a.Web (webF N ks As)) true := iso_self T.is_Web
    row_hasAny pu
    refine u_places hWb ?_
    row_hasAny pu
    refine u_same rfl ⟨rfl, by show 0 < 72; decide⟩ ?_
    row_hasAny pu
    refine u_arrows hWb ?_
    row_hasAny pu
    refine u_same rfl (pairs_nice As) ?_
    row_hasAny pu
    exact rfl
theorem u_isw {K : PySem.W.Frag} {a : Ad} {n : Nat} {ks As : List (Int × Int)} {R : M → Prop} (hW : Wb n ks As) (k : R (.sh (.bl true))) : ∃ b, f_law_is_web K a [.sh (.ob a.Web (webF n ks As)), .sh (.int (n : Int)), .sh (.lst (As.map prE))] = some b ∧ b.pre ∧ (∀ cls xd, ¬ b.xp cls xd) ∧ ∀ r, b.post r → R r :=
  cb1 rfl ⟨n, ks, As, rfl, hW, rfl, rfl⟩ k

/-! ### _law_answers -/
--@hint told == order => own Order
--@hint told != order => own Order
theorem u_tab {N : Nat} {A : List (Int × Int)} {R : M → Prop} (hl : A.length ≤ 100000) (k1 : owP N A → R (.sh (.lst ((tab N (tF A)).map .lst)))) (k2 : ¬ owP N A → R (.sh .non)) : ∃ b, f_law_table_of [.sh (.int (N : Int)), .sh (.lst (A.map prE))] = some b ∧ b.pre ∧ (∀ cls xd, ¬ b.xp cls xd) ∧ ∀ r, b.post r → R r :=
  cbS rfl ⟨N, A, rfl, rfl, hl⟩ fun N' A' e1 e2 => by
    obtain rfl := prE_inj e2
    obtain rfl : N = N' := by omega
    exact ⟨k1, k2⟩
def f_law_answers (K : PySem.W.Frag) (a : Ad) : List M → Option Br
  | [.sh w, .sh (.int n), .sh (.lst es), .sh o, .sh (.bl same)] => some (brp (∃ (N : Nat) (ks As : List (Int × Int)) (os : List Nat), w = .ob a.Web (webF N ks As) ∧ Wb N ks As ∧ n = (N : Int) ∧ es = As.map prE ∧ o = ordE a os ∧ OrdT os ∧ ∀ rs, OrdT rs → rs.length = N → (∀ x y, x < N → y < N → bt rs x y = tF As x y) → same = decide (rs = os)) (.sh (.bl true)))
  | _ => none
theorem ok_law_answers (T : Txt K mg a d) : FnOk P w K mg base CX0 76 a.law_answers d.law_answers ["web", "n", "arrows", "order", "same"] (spC (ctF (f_law_answers K a))) := by
  refine T.F_law_answers.ok sc_law_answers (fun vs H Q E h => spF_len (fun ms b hf => by unfold f_law_answers at hf; split at hf <;> first | rfl | cases hf) h) (fun cdv A outer s H vs Q E hr h => ⟨_, (pss_cons (ps_set (i := 5) sc_law_answers.nd rfl (by first | exact Or.inl rfl | exact Or.inr rfl) (pe_call (ok_law_table_of (P := P) T) (hr.mono (by omega)) rfl T.g_law_table_of T.F_law_table_of.kp T.b_law_table_of .nil pass0 (pa_cons (pv 1) (pa_cons (pv 2) pa_nil))))
      (pss_cons (ps_if (pt_not (pt_val (pe_call (ok_law_same (P := P) T 72) (hr.mono (by omega)) rfl T.g_law_same T.F_law_same.kp T.b_law_same .nil pass0 (pa_cons (pe_call (ok_is_order_web (P := P) T) (hr.mono (by omega)) rfl T.g_is_order_web T.F_is_order_web.kp T.b_is_order_web .nil pass0 (pa_cons (pv 0) pa_nil)) (pa_cons (pe_cmpR op_notN (pv 5) pe_non (nomark _)) pa_nil))))) (pss_one (ps_ret pe_bl)) pss_nil)
      (pss_cons (ps_set (i := 6) sc_law_answers.nd rfl (by first | exact Or.inl rfl | exact Or.inr rfl) (pe_call (ok_law_ask_order (P := P) T) (hr.mono (by omega)) rfl T.g_law_ask_order T.F_law_ask_order.kp T.b_law_ask_order .nil pass0 (pa_cons (pv 0) pa_nil)))
      (pss_cons (ps_if (pt_cmpR op_isN (pv 5) pe_non (nomark _)) (pss_one (ps_ret (pe_call (ok_law_same (P := P) T 72) (hr.mono (by omega)) rfl T.g_law_same T.F_law_same.kp T.b_law_same .nil pass0 (pa_cons (pv 6) (pa_cons (pe_tup (pa_cons pe_str (pa_cons pe_non (pa_cons pe_bl pa_nil)))) pa_nil))))) pss_nil)
      (pss_cons (ps_if (PW.pt (pw_or (pt_not (pt_val (pe_call (ok_law_is_order (P := P) T) (hr.mono (by omega)) rfl T.g_law_is_order T.F_law_is_order.kp T.b_law_is_order .nil pass0 (pa_cons (pv 6) (pa_cons (pv 5) pa_nil))))) (pw_or (pt_not (pt_val (pe_call (ok_law_same (P := P) T 72) (hr.mono (by omega)) rfl T.g_law_same T.F_law_same.kp T.b_law_same .nil pass0 (pa_cons (pe_cmpR (op_own (by first | exact Or.inl rfl | exact Or.inr rfl) hr.units T.mt_Order__eq__ rfl (ok_Order__eq__ (P := P) T) (hr.mono (by omega)) T.b_Order__eq__ pass0 K) (pv 6) (pv 3) (nomark _)) (pa_cons (pv 4) pa_nil))))) (pw_or1 (pt_not (pt_val (pe_call (ok_law_same (P := P) T 72) (hr.mono (by omega)) rfl T.g_law_same T.F_law_same.kp T.b_law_same .nil pass0 (pa_cons (pe_cmpR (op_own (by first | exact Or.inl rfl | exact Or.inr rfl) hr.units T.mt_Order__ne__ rfl (ok_Order__ne__ (P := P) T) (hr.mono (by omega)) T.b_Order__ne__ pass0 K) (pv 6) (pv 3) (nomark _)) (pa_cons (k_notT K (pv 4)) pa_nil))))))))) (pss_one (ps_ret pe_bl)) pss_nil)
      (pss_one (ps_ret (pe_call (ok_law_is_web (P := P) T) (hr.mono (by omega)) rfl T.g_law_is_web T.F_law_is_web.kp T.b_law_is_web .nil pass0 (pa_cons (pe_call (ok_law_ask_web (P := P) T) (hr.mono (by omega)) rfl T.g_law_ask_web T.F_law_ask_web.kp T.b_law_ask_web .nil pass0 (pa_cons (pv 6) pa_nil)) (pa_cons (pv 1) (pa_cons (pv 2) pa_nil))))))))))), p_bodyF h fun ms b hf hp => ?_⟩)
  unfold f_law_answers at hf
  split at hf
  rotate_right
  · cases hf
  · rename_i w n es o same
    cases hf
    obtain ⟨N, ks, As, os, rfl, hWb, rfl, rfl, rfl, Oo, hsame⟩ := (show ∃ (N : Nat) (ks As : List (Int × Int)) (os : List Nat), w = .ob a.Web (webF N ks As) ∧ Wb N ks As ∧ n = (N : Int) ∧ es = As.map prE ∧ o = ordE a os ∧ OrdT os ∧ ∀ rs, OrdT rs → rs.length = N → (∀ x y, x < N → y < N → bt rs x y = tF As x y) → same = decide (rs = os) from hp)
    have zl : sizeLine = 16777216 := sizeLine_eq
    have hi := T.is_Order
    have isw : isOf K a.Web (.ob a.Web (webF N ks As)) true := iso_self T.is_Web
    refine p_absX fun Qx => ?_
    by_cases how : owP N As
    · refine p_seqC (fun ρ => ρ = [.sh (.ob a.Web (webF N ks As)), .sh (.int (N : Int)), .sh (.lst (As.map prE)), .sh (ordE a os), .sh (.bl same), .sh (.lst ((tab N (tF As)).map .lst)), .no]) ?_ ?_
      · row_hasAny pu
        refine u_tab (by have := hWb.t.len; omega) (fun _ => ?_) (fun h => absurd how h)
        refine p_gname ?_
        exact rfl
      rintro ρ rfl
      refine p_seqC (fun ρ => ρ = [.sh (.ob a.Web (webF N ks As)), .sh (.int (N : Int)), .sh (.lst (As.map prE)), .sh (ordE a os), .sh (.bl same), .sh (.lst ((tab N (tF As)).map .lst)), .no]) ?_ ?_
      · row_hasAny pu
        refine u_iow hWb isw (fun h => absurd how h) (fun _ => ?_)
        row_hasAny pu
        refine u_same rfl (nice_bl _) ?_
        row_hasAny pu
        exact rfl
      rintro ρ rfl
      refine p_seqC (fun ρ => ∃ rs, OrdT rs ∧ rs.length = N ∧ (∀ x y, x < N → y < N → bt rs x y = tF As x y) ∧ ρ = [.sh (.ob a.Web (webF N ks As)), .sh (.int (N : Int)), .sh (.lst (As.map prE)), .sh (ordE a os), .sh (.bl same), .sh (.lst ((tab N (tF As)).map .lst)), .sh (ordE a rs)]) ?_ ?_
      · row_hasAny pu
        refine u_ao hWb isw (fun h => absurd how h) (fun _ rs O hl hb => ?_)
        refine p_gname ?_
        exact ⟨rs, O, hl, hb, rfl⟩
      rintro ρ ⟨rs, O, hl, hb, rfl⟩
      have iso : isOf K a.Order (ordE a rs) true := iso_self T.is_Order
      have hs := hsame rs O hl hb
      subst hs
      have eR : As = raF N (bt rs) := (raF_ext hWb.t.asc hWb.t.rng).mpr hb
      have eT : tab N (tF As) = tab rs.length (bt rs) := by
        rw [hl]
        exact tab_congr fun x y hx hy => (hb x y hx hy).symm
      have hlen := hWb.t.len
      rw [eT]
      clear hsame
      row_hasAny pu
      refine u_iso O ?_
      row_hasAny pu
      refine v_own (g := f_Order__eq__ K a) rfl late_self (u_OrderEq hi ?_)
      row_hasAny pu
      refine u_same rfl (nice_bl _) ?_
      row_hasAny pu
      refine v_own (g := f_Order__ne__ K a) rfl late_self (u_OrderNe ?_)
      row_hasAny pu
      refine u_same rfl (nice_bl _) ?_
      row_hasAny pu
      refine u_aw O iso (fun h => ?_) (fun _ js hW2 => ?_)
      · rw [hl, ← eR] at h
        omega
      · rw [hl, ← eR] at hW2
        rw [hl, ← eR]
        row_hasAny pu
        refine u_isw hW2 ?_
        exact rfl
    · refine p_seqC (fun ρ => ρ = [.sh (.ob a.Web (webF N ks As)), .sh (.int (N : Int)), .sh (.lst (As.map prE)), .sh (ordE a os), .sh (.bl same), .sh .non, .no]) ?_ ?_
      · row_hasAny pu
        refine u_tab (by have := hWb.t.len; omega) (fun h => absurd h how) (fun _ => ?_)
        refine p_gname ?_
        exact rfl
      rintro ρ rfl
      row_hasAny pu
      refine u_iow hWb isw (fun _ => ?_) (fun h => absurd h how)
      row_hasAny pu
      refine u_same rfl (nice_bl _) ?_
      row_hasAny pu
      refine u_ao hWb isw (fun _ => ?_) (fun h => absurd h how)
      row_hasAny pu
      refine u_same rfl ⟨rfl, by show 1 + max 0 (max 0 (max 0 0)) < 72; decide⟩ ?_
      row_hasAny pu
      exact rfl

/-! ### _law_odd_refused -/
--@used o Order
--@used o Web
--@used y Web Order
--@used y Order Web
theorem iso_lstN {K : PySem.W.Frag} {C : Addr} {es : List Pl.E} (h : NoK K C) : isOf K C (.lst es) false := ⟨_, .inl ⟨_, rfl, rfl⟩, h _ (by decide)⟩
theorem iso_tupN {K : PySem.W.Frag} {C : Addr} {es : List Pl.E} (h : NoK K C) : isOf K C (.tup es) false := ⟨_, .inl ⟨_, rfl, rfl⟩, h _ (by decide)⟩
def f_law_odd_refused (K : PySem.W.Frag) (a : Ad) : List M → Option Br
  | [.sh od, .sh w, .sh o] => some (brp (∃ (N : Nat) (ks As : List (Int × Int)) (os : List Nat), okAny 67 od ∧ w = .ob a.Web (webF N ks As) ∧ Wb N ks As ∧ o = ordE a os ∧ OrdT os) (.sh (.bl true)))
  | _ => none
theorem ok_law_odd_refused (T : Txt K mg a d) : FnOk P w K mg base CX0 75 a.law_odd_refused d.law_odd_refused ["odd", "web", "order"] (spC (ctF (f_law_odd_refused K a))) := by
  refine T.F_law_odd_refused.ok sc_law_odd_refused (fun vs H Q E h => spF_len (fun ms b hf => by unfold f_law_odd_refused at hf; split at hf <;> first | rfl | cases hf) h) (fun cdv A outer s H vs Q E hr h => ⟨_, (pss_cons (ps_for PassesOwn.never rfl (kp_tup K (pe_tup (pa_cons (pv 0) (pa_cons (pv 1) (pa_cons (pe_lst (pa_cons (pv 2) pa_nil)) pa_nil))))) (pg_name (i := 3) sc_law_odd_refused.nd rfl (by first | exact Or.inl rfl | exact Or.inr rfl)) (pss_one (ps_if (pt_not (pt_val (pe_call (ok_law_same (P := P) T 72) (hr.mono (by omega)) rfl T.g_law_same T.F_law_same.kp T.b_law_same .nil pass0 (pa_cons (pe_call (ok_law_ask_web (P := P) T) (hr.mono (by omega)) rfl T.g_law_ask_web T.F_law_ask_web.kp T.b_law_ask_web .nil pass0 (pa_cons (pv 3) pa_nil)) (pa_cons (pe_tup (pa_cons pe_str (pa_cons pe_non (pa_cons pe_bl pa_nil)))) pa_nil))))) (pss_one (ps_ret pe_bl)) pss_nil)))
      (pss_cons (ps_for PassesOwn.never rfl (kp_tup K (pe_tup (pa_cons (pv 0) (pa_cons (pv 2) (pa_cons (pe_lst (pa_cons (pv 1) pa_nil)) (pa_cons (pe_tup (pa_cons (pv 1) pa_nil)) pa_nil)))))) (pg_name (i := 3) sc_law_odd_refused.nd rfl (by first | exact Or.inl rfl | exact Or.inr rfl)) (pss_one (ps_if (PW.pt (pw_or (pt_not (pt_val (pe_call (ok_law_same (P := P) T 72) (hr.mono (by omega)) rfl T.g_law_same T.F_law_same.kp T.b_law_same .nil pass0 (pa_cons (pe_call (ok_is_order_web (P := P) T) (hr.mono (by omega)) rfl T.g_is_order_web T.F_is_order_web.kp T.b_is_order_web .nil pass0 (pa_cons (pv 3) pa_nil)) (pa_cons pe_bl pa_nil))))) (pw_or1 (pt_not (pt_val (pe_call (ok_law_same (P := P) T 72) (hr.mono (by omega)) rfl T.g_law_same T.F_law_same.kp T.b_law_same .nil pass0 (pa_cons (pe_call (ok_law_ask_order (P := P) T) (hr.mono (by omega)) rfl T.g_law_ask_order T.F_law_ask_order.kp T.b_law_ask_order .nil pass0 (pa_cons (pv 3) pa_nil)) (pa_cons (pe_tup (pa_cons pe_str (pa_cons pe_non (pa_cons pe_bl pa_nil)))) pa_nil)))))))) (pss_one (ps_ret pe_bl)) pss_nil)))
      (pss_one (ps_ret pe_bl)))), p_bodyF h fun ms b hf hp => ?_⟩)
  unfold f_law_odd_refused at hf
  split at hf
  rotate_right
  · cases hf
  · rename_i od w o
    cases hf
    obtain ⟨N, ks, As, os, hod, rfl, hWb, rfl, O⟩ := (show ∃ (N : Nat) (ks As : List (Int × Int)) (os : List Nat), okAny 67 od ∧ w = .ob a.Web (webF N ks As) ∧ Wb N ks As ∧ o = ordE a os ∧ OrdT os from hp)
    have zl : sizeLine = 16777216 := sizeLine_eq
    have nO := T.nk_Order
    have nW := T.nk_Web
    refine p_absX fun Qx => ?_
    refine p_seqC (fun ρ => ∃ z3 : M, ρ = [.sh od, .sh (.ob a.Web (webF N ks As)), .sh (ordE a os), z3]) ?_ ?_
    · refine q_for (fun L i ρ => (∀ e ∈ L, isOf K a.Order e false) ∧ ∃ z3 : M, ρ = [.sh od, .sh (.ob a.Web (webF N ks As)), .sh (ordE a os), z3]) ?_
      refine p_itup ?_
      row_hasAny pu
      refine ⟨⟨fun e he => ?_, _, rfl⟩, ?_, ?_⟩
      · rcases List.mem_cons.mp he with rfl | he
        · exact iso_plain nO hod.1
        rcases List.mem_cons.mp he with rfl | he
        · exact iso_other T.is_Web T.kit_Web_Order
        · rw [List.mem_singleton.mp he]
          exact iso_lstN nO
      · rintro i e ρ he ⟨hall, z3, rfl⟩
        have ho := hall e (List.mem_of_getElem? he)
        row_hasAny pu
        refine u_awO T.is_Order ho ?_
        row_hasAny pu
        refine u_same rfl ⟨rfl, by show 1 + max 0 (max 0 (max 0 0)) < 72; decide⟩ ?_
        row_hasAny pu
        exact ⟨hall, _, rfl⟩
      · rintro ρ ⟨hall, z3, rfl⟩
        exact ⟨_, rfl⟩
    rintro ρ ⟨z3, rfl⟩
    refine p_seqC (fun ρ => ∃ z3 : M, ρ = [.sh od, .sh (.ob a.Web (webF N ks As)), .sh (ordE a os), z3]) ?_ ?_
    · refine q_for (fun L i ρ => (∀ e ∈ L, isOf K a.Web e false) ∧ ∃ z3 : M, ρ = [.sh od, .sh (.ob a.Web (webF N ks As)), .sh (ordE a os), z3]) ?_
      refine p_itup ?_
      row_hasAny pu
      refine ⟨⟨fun e he => ?_, _, rfl⟩, ?_, ?_⟩
      · rcases List.mem_cons.mp he with rfl | he
        · exact iso_plain nW hod.1
        rcases List.mem_cons.mp he with rfl | he
        · exact iso_other T.is_Order T.kit_Order_Web
        rcases List.mem_cons.mp he with rfl | he
        · exact iso_lstN nW
        · rw [List.mem_singleton.mp he]
          exact iso_tupN nW
      · rintro i e ρ he ⟨hall, z3, rfl⟩
        have ho := hall e (List.mem_of_getElem? he)
        row_hasAny pu
        refine u_iowO T.is_Web ho ?_
        row_hasAny pu
        refine u_same rfl (nice_bl _) ?_
        row_hasAny pu
        refine u_aoO T.is_Web ho ?_
        row_hasAny pu
        refine u_same rfl ⟨rfl, by show 1 + max 0 (max 0 (max 0 0)) < 72; decide⟩ ?_
        row_hasAny pu
        exact ⟨hall, _, rfl⟩
      · rintro ρ ⟨hall, z3, rfl⟩
        exact ⟨_, rfl⟩
    rintro ρ ⟨z3, rfl⟩
    row_hasAny pu
    exact rfl

/-! ### law -/
--@used o Order
--@used o Web
--@hint changed == arrows => data
--@hint third[1] == arrows => data
/-- the wide orders that the law draws, and the small ones -/
def chL (n : Nat) : List (Int × Int) := (List.range (n - 1)).map fun k : Nat => ((k : Int), (k : Int) + 1)
def caseP (N : Nat) (A : List (Int × Int)) : Prop := N ≤ 10 ∨ (N = 63 ∨ N = 64) ∧ A = chL N ∨ (N = 45 ∨ N = 46) ∧ A = []
theorem chL_rising (n : Nat) : Rising n (chL n) := fun q hq => by
  obtain ⟨k, hk, rfl⟩ := List.mem_map.mp hq
  have := List.mem_range.mp hk
  exact ⟨by show (0 : Int) ≤ _; omega, by show (k : Int) < (k : Int) + 1; omega, by show (k : Int) + 1 < (n : Int); omega⟩
theorem chL_rch {n a : Nat} : ∀ d, a + d < n → Rch (chL n) (a : Int) ((a + d : Nat) : Int)
  | 0, _ => .refl _
  | d + 1, h => by
    have h1 := chL_rch (n := n) (a := a) d (by omega)
    refine h1.trans (.step (b := ((a + (d + 1) : Nat) : Int)) (List.mem_map.mpr ⟨a + d, List.mem_range.mpr (by omega), ?_⟩) (.refl _))
    exact Prod.ext rfl (by show ((a + d : Nat) : Int) + 1 = ((a + (d + 1) : Nat) : Int); omega)
theorem case_len {N : Nat} {A : List (Int × Int)} (h : caseP N A) (R : Rising N A) {os : List Nat} (O : OrdT os) (hl : os.length = N) (hr : ∀ x y : Nat, x < N → y < N → (bt os x y = true ↔ Rch A x y)) (h2 : (raF N (bt os)).length ≤ 2000) : (raF N (bt os)).length ≤ 1990 := by
  rcases h with h | ⟨h | h, hA⟩ | ⟨h | h, hA⟩
  · have h3 := raF_len N (bt os)
    have h4 : N * N ≤ 10 * 10 := Nat.mul_le_mul h h
    omega
  · subst hA h
    have h1 : (raF 63 fun b a => decide (b ≤ a)).length = 1953 := by decide +kernel
    have h3 := nodup_sub_len (m := raF 63 fun b a => decide (b ≤ a)) (plt_nd (raF_asc 63 (bt os))) fun q hq => by
      obtain ⟨x, y, hx, hy, hf, rfl⟩ := mem_raF.mp hq
      refine mem_raF.mpr ⟨x, y, hx, hy, ?_, rfl⟩
      refine decide_eq_false fun hle => ?_
      have h5 := (hr y x hy hx).mpr (by
        have := chL_rch (n := 63) (a := y) (x - y) (by omega)
        rw [show y + (x - y) = x by omega] at this
        exact this)
      rw [h5] at hf
      cases hf
    omega
  · have := raF_big O (by omega)
    rw [hl] at this
    omega
  · subst hA h
    have h1 : (raF 45 fun b a => decide (b = a)).length = 1980 := by decide +kernel
    have h3 : raF 45 (bt os) = raF 45 fun b a => decide (b = a) := raF_congr fun x y hx hy => by
      rw [Bool.eq_iff_iff, hr x y hx hy, decide_eq_true_iff, Rch.cases]
      constructor
      · intro h
        rcases h with h | ⟨_, h, _⟩
        · omega
        · cases h
      · intro h
        exact .inl (by omega)
    rw [h3]
    omega
  · subst hA h
    have h1 : (raF 46 fun b a => decide (b = a)).length = 2070 := by decide +kernel
    have h3 : raF 46 (bt os) = raF 46 fun b a => decide (b = a) := raF_congr fun x y hx hy => by
      rw [Bool.eq_iff_iff, hr x y hx hy, decide_eq_true_iff, Rch.cases]
      constructor
      · intro h
        rcases h with h | ⟨_, h, _⟩
        · omega
        · cases h
      · intro h
        exact .inl (by omega)
    rw [h3] at h2
    omega
theorem pairsOf_self (A : List (Int × Int)) : pairsOf A (.lst (A.map prE)) := ⟨A.map prE, A, rfl, allPr_map A, fun _ => Iff.rfl, by omega, fun x hx => by
  obtain ⟨p, _, rfl⟩ := List.mem_map.mp hx
  rfl⟩
theorem same_iff {N W : Nat} {R C : List (Int × Int)} {os rs : List Nat} (O : OrdT os) (hl : os.length = N) (hR : R = raF N (bt os)) (hC : C.Pairwise plt) (hW : Within W C) (O2 : OrdT rs) (hlr : rs.length = W) (hb : ∀ x y, x < W → y < W → bt rs x y = tF C x y) : (W = N ∧ C = R) ↔ rs = os := by
  have hC2 : C = raF W (bt rs) := (raF_ext hC hW).mpr hb
  constructor
  · rintro ⟨rfl, h⟩
    have h3 : ∀ x y, x < W → y < W → bt os x y = tF C x y := (raF_ext hC hW).mp (h.trans hR)
    refine ord_extI O2 O (by omega) fun x y hx hy => ?_
    rw [hb x y (by omega) (by omega), h3 x y (by omega) (by omega)]
  · rintro rfl
    refine ⟨by omega, ?_⟩
    rw [hC2, hR, ← hl, ← hlr]

def sp_law (K : PySem.W.Frag) : Sp := fun vs H Q _ => ∃ (a : Addr) (ns : List Int), vs = [.ref a] ∧ SqL K H a (ns.map V.int) ∧ ns.length ≤ 63 ∧ ∀ H', Q (.bl true) H'
theorem ok_law (T : Txt K mg a d) : FnOk P w K mg base CX0 77 a.law d.law ["script"] (sp_law K) := by
  refine T.F_law.ok sc_law (fun vs H Q E h => ?_) (fun cdv A outer s H vs Q E hr h => ⟨_, (pss_cons (ps_set (i := 1) sc_law.nd rfl (by first | exact Or.inl rfl | exact Or.inr rfl) (pe_call (ok_law_store (P := P) T) (hr.mono (by omega)) rfl T.g_law_store T.F_law_store.kp T.b_law_store .nil pass0 (pa_cons (pv 0) pa_nil)))
      (pss_cons (ps_set (i := 2) sc_law.nd rfl (by first | exact Or.inl rfl | exact Or.inr rfl) pe_int)
      (pss_cons (ps_if (pt_cmpR (k_eq K hr.units) (pe_call (ok_law_take (P := P) T) (hr.mono (by omega)) rfl T.g_law_take T.F_law_take.kp T.b_law_take .nil pass0 (pa_cons (pv 1) (pa_cons pe_int pa_nil))) pe_int (nomark _)) (pss_one (ps_set (i := 2) sc_law.nd rfl (by first | exact Or.inl rfl | exact Or.inr rfl) pe_int)) pss_nil)
      (pss_cons (ps_set (i := 3) sc_law.nd rfl (by first | exact Or.inl rfl | exact Or.inr rfl) (pe_call (ok_law_order (P := P) T) (hr.mono (by omega)) rfl T.g_law_order T.F_law_order.kp T.b_law_order .nil pass0 (pa_cons (pv 1) (pa_cons (pv 2) pa_nil))))
      (pss_cons (ps_set (i := 4) sc_law.nd rfl (by first | exact Or.inl rfl | exact Or.inr rfl) (pe_call (ok_law_pair_forms (P := P) T) (hr.mono (by omega)) rfl T.g_law_pair_forms T.F_law_pair_forms.kp T.b_law_pair_forms .nil pass0 (pa_cons (pv 1) (pa_cons (pe_ix (k_ix K) (pv 3) pe_int (fun _ _ => rfl)) pa_nil))))
      (pss_cons (ps_if (pt_cmpR (k_eq K hr.units) (pe_call (ok_law_take (P := P) T) (hr.mono (by omega)) rfl T.g_law_take T.F_law_take.kp T.b_law_take .nil pass0 (pa_cons (pv 1) (pa_cons pe_int pa_nil))) pe_int (nomark _)) (pss_cons (ps_set (i := 5) sc_law.nd rfl (by first | exact Or.inl rfl | exact Or.inr rfl) (pe_op (k_add K) pe_int (pe_call (ok_law_take (P := P) T) (hr.mono (by omega)) rfl T.g_law_take T.F_law_take.kp T.b_law_take .nil pass0 (pa_cons (pv 1) (pa_cons pe_int pa_nil)))))
      (pss_cons (ps_set (i := 3) sc_law.nd rfl (by first | exact Or.inl rfl | exact Or.inr rfl) (pe_lst (pa_cons (pv 5) (pa_cons (pe_lc (own := [("k", 14)]) (g := gName 14) (tt := tYes) rfl sc_law.nd (pi_range1 rfl T.m_range (pa_cons (pe_op op_sub (pv 5) pe_int) pa_nil)) (blkOk_by (N := ["script", "store", "most", "case", "handed", "size", "below", "arrows", "order", "web", "changed", "other", "third", "same", "k"]) (sc := defScope s_law) (by decide +kernel)) (fun _ _ _ _ _ => (pg_name (i := 14) sc_law.nd rfl (by first | exact Or.inl rfl | exact Or.inr rfl))) (fun _ _ _ _ _ => pts_nil) (fun _ _ _ _ _ => (pe_tup (pa_cons (pv 14) (pa_cons (pe_op (k_add K) (pv 14) pe_int) pa_nil))))) pa_nil))))
      (pss_cons (ps_if (pt_cmpR (k_eq K hr.units) (pe_call (ok_law_take (P := P) T) (hr.mono (by omega)) rfl T.g_law_take T.F_law_take.kp T.b_law_take .nil pass0 (pa_cons (pv 1) (pa_cons pe_int pa_nil))) pe_int (nomark _)) (pss_one (ps_set (i := 3) sc_law.nd rfl (by first | exact Or.inl rfl | exact Or.inr rfl) (pe_lst (pa_cons (pe_op (k_add K) pe_int (pe_call (ok_law_take (P := P) T) (hr.mono (by omega)) rfl T.g_law_take T.F_law_take.kp T.b_law_take .nil pass0 (pa_cons (pv 1) (pa_cons pe_int pa_nil)))) (pa_cons (pe_lst pa_nil) pa_nil))))) pss_nil)
      (pss_one (ps_set (i := 4) sc_law.nd rfl (by first | exact Or.inl rfl | exact Or.inr rfl) (pe_callTy (k_list K) (by rfl) T.m_list bt_list (pa_cons (pe_ix (k_ix K) (pv 3) pe_int (fun _ _ => rfl)) pa_nil))))))) pss_nil)
      (pss_cons (ps_set (i := 5) sc_law.nd rfl (by first | exact Or.inl rfl | exact Or.inr rfl) (pe_ix (k_ix K) (pv 3) pe_int (fun _ _ => rfl)))
      (pss_cons (ps_set (i := 6) sc_law.nd rfl (by first | exact Or.inl rfl | exact Or.inr rfl) (pe_call (ok_law_below (P := P) T) (hr.mono (by omega)) rfl T.g_law_below T.F_law_below.kp T.b_law_below .nil pass0 (pa_cons (pv 5) (pa_cons (pe_ix (k_ix K) (pv 3) pe_int (fun _ _ => rfl)) pa_nil))))
      (pss_cons (ps_set (i := 7) sc_law.nd rfl (by first | exact Or.inl rfl | exact Or.inr rfl) (pe_call (ok_law_order_arrows (P := P) T) (hr.mono (by omega)) rfl T.g_law_order_arrows T.F_law_order_arrows.kp T.b_law_order_arrows .nil pass0 (pa_cons (pv 6) pa_nil)))
      (pss_cons (ps_set (i := 8) sc_law.nd rfl (by first | exact Or.inl rfl | exact Or.inr rfl) (pe_make T.mk_Order (ok_Order__init__ (P := P) T) (hr.mono (by omega)) rfl T.g_Order T.bm_1.choose_spec.2 T.bm_1.choose_spec.1 passL (pa_cons (pv 5) (pa_cons (pv 4) pa_nil))))
      (pss_cons (ps_set (i := 9) sc_law.nd rfl (by first | exact Or.inl rfl | exact Or.inr rfl) (pe_call (ok_law_ask_web (P := P) T) (hr.mono (by omega)) rfl T.g_law_ask_web T.F_law_ask_web.kp T.b_law_ask_web .nil pass0 (pa_cons (pv 8) pa_nil)))
      (pss_cons (ps_if (pt_cmpR op_gt (pe_callB (k_len K) (by rfl) T.m_len bt_len (pa_cons (pv 7) pa_nil)) pe_int (nomark _)) (pss_one (ps_ret (pe_call (ok_law_same (P := P) T 72) (hr.mono (by omega)) rfl T.g_law_same T.F_law_same.kp T.b_law_same .nil pass0 (pa_cons (pv 9) (pa_cons (pe_tup (pa_cons pe_str (pa_cons pe_int (pa_cons pe_bl pa_nil)))) pa_nil))))) pss_nil)
      (pss_cons (ps_if (PW.pt (pw_or (pt_not (pt_val (pe_call (ok_law_is_web (P := P) T) (hr.mono (by omega)) rfl T.g_law_is_web T.F_law_is_web.kp T.b_law_is_web .nil pass0 (pa_cons (pv 9) (pa_cons (pv 5) (pa_cons (pv 7) pa_nil)))))) (pw_or1 (pt_not (pt_val (pe_call (ok_law_answers (P := P) T) (hr.mono (by omega)) rfl T.g_law_answers T.F_law_answers.kp T.b_law_answers .nil pass0 (pa_cons (pv 9) (pa_cons (pv 5) (pa_cons (pv 7) (pa_cons (pv 8) (pa_cons pe_bl pa_nil))))))))))) (pss_one (ps_ret pe_bl)) pss_nil)
      (pss_cons (ps_set (i := 10) sc_law.nd rfl (by first | exact Or.inl rfl | exact Or.inr rfl) (pe_call (ok_law_changed (P := P) T) (hr.mono (by omega)) rfl T.g_law_changed T.F_law_changed.kp T.b_law_changed .nil pass0 (pa_cons (pv 1) (pa_cons (pv 5) (pa_cons (pv 7) pa_nil)))))
      (pss_cons (ps_set (i := 11) sc_law.nd rfl (by first | exact Or.inl rfl | exact Or.inr rfl) (pe_make T.mk_Web (ok_Web__init__ (P := P) T) (hr.mono (by omega)) rfl T.g_Web T.bm_0.choose_spec.2 T.bm_0.choose_spec.1 passL (pa_cons (pv 5) (pa_cons (pe_callTy (k_list K) (by rfl) T.m_list bt_list (pa_cons (pv 10) pa_nil)) pa_nil))))
      (pss_cons (ps_if (pt_not (pt_val (pe_call (ok_law_answers (P := P) T) (hr.mono (by omega)) rfl T.g_law_answers T.F_law_answers.kp T.b_law_answers .nil pass0 (pa_cons (pv 11) (pa_cons (pv 5) (pa_cons (pv 10) (pa_cons (pv 8) (pa_cons (pe_cmpR (k_eq K hr.units) (pv 10) (pv 7) (nomark _)) pa_nil)))))))) (pss_one (ps_ret pe_bl)) pss_nil)
      (pss_cons (ps_set (i := 12) sc_law.nd rfl (by first | exact Or.inl rfl | exact Or.inr rfl) (pe_call (ok_law_web (P := P) T) (hr.mono (by omega)) rfl T.g_law_web T.F_law_web.kp T.b_law_web .nil pass0 (pa_cons (pv 1) (pa_cons pe_int pa_nil))))
      (pss_cons (ps_if (pt_cmpR (k_eq K hr.units) (pe_call (ok_law_take (P := P) T) (hr.mono (by omega)) rfl T.g_law_take T.F_law_take.kp T.b_law_take .nil pass0 (pa_cons (pv 1) (pa_cons pe_int pa_nil))) pe_int (nomark _)) (pss_cons (ps_set (i := 12) sc_law.nd rfl (by first | exact Or.inl rfl | exact Or.inr rfl) (pe_lst (pa_cons (pe_op (k_add K) pe_int (pe_call (ok_law_take (P := P) T) (hr.mono (by omega)) rfl T.g_law_take T.F_law_take.kp T.b_law_take .nil pass0 (pa_cons (pv 1) (pa_cons pe_int pa_nil)))) (pa_cons (pe_lst pa_nil) pa_nil))))
      (pss_one (ps_if (pt_cmpR (k_eq K hr.units) (pe_call (ok_law_take (P := P) T) (hr.mono (by omega)) rfl T.g_law_take T.F_law_take.kp T.b_law_take .nil pass0 (pa_cons (pv 1) (pa_cons pe_int pa_nil))) pe_int (nomark _)) (pss_one (ps_set (i := 12) sc_law.nd rfl (by first | exact Or.inl rfl | exact Or.inr rfl) (pe_lst (pa_cons (pe_ix (k_ix K) (pv 12) pe_int (fun _ _ => rfl)) (pa_cons (pe_call (ok_law_named_arrows (P := P) T) (hr.mono (by omega)) rfl T.g_law_named_arrows T.F_law_named_arrows.kp T.b_law_named_arrows .nil pass0 (pa_cons (pe_ix (k_ix K) (pv 12) pe_int (fun _ _ => rfl)) (pa_cons pe_int pa_nil))) pa_nil))))) pss_nil))) pss_nil)
      (pss_cons (ps_set (i := 13) sc_law.nd rfl (by first | exact Or.inl rfl | exact Or.inr rfl) (pe_and (pe_cmpR (k_eq K hr.units) (pe_ix (k_ix K) (pv 12) pe_int (fun _ _ => rfl)) (pv 5) (nomark _)) (pe_one (pe_cmpR (k_eq K hr.units) (pe_ix (k_ix K) (pv 12) pe_int (fun _ _ => rfl)) (pv 7) (nomark _)))))
      (pss_cons (ps_if (pt_not (pt_val (pe_call (ok_law_answers (P := P) T) (hr.mono (by omega)) rfl T.g_law_answers T.F_law_answers.kp T.b_law_answers .nil pass0 (pa_cons (pe_make T.mk_Web (ok_Web__init__ (P := P) T) (hr.mono (by omega)) rfl T.g_Web T.bm_0.choose_spec.2 T.bm_0.choose_spec.1 passL (pa_cons (pe_ix (k_ix K) (pv 12) pe_int (fun _ _ => rfl)) (pa_cons (pe_call (ok_law_form (P := P) T) (hr.mono (by omega)) rfl T.g_law_form T.F_law_form.kp T.b_law_form .nil pass0 (pa_cons (pv 1) (pa_cons (pe_ix (k_ix K) (pv 12) pe_int (fun _ _ => rfl)) pa_nil))) pa_nil))) (pa_cons (pe_ix (k_ix K) (pv 12) pe_int (fun _ _ => rfl)) (pa_cons (pe_ix (k_ix K) (pv 12) pe_int (fun _ _ => rfl)) (pa_cons (pv 8) (pa_cons (pv 13) pa_nil)))))))) (pss_one (ps_ret pe_bl)) pss_nil)
      (pss_cons (ps_if (pt_not (pt_val (pe_call (ok_law_odd_refused (P := P) T) (hr.mono (by omega)) rfl T.g_law_odd_refused T.F_law_odd_refused.kp T.b_law_odd_refused .nil pass0 (pa_cons (pe_call (ok_law_any (P := P) T) (hr.mono (by omega)) rfl T.g_law_any T.F_law_any.kp T.b_law_any .nil pass0 (pa_cons (pv 1) pa_nil)) (pa_cons (pv 9) (pa_cons (pv 8) pa_nil)))))) (pss_one (ps_ret pe_bl)) pss_nil)
      (pss_cons (ps_if (PW.pt (pw_or (pt_not (pt_val (pe_call (ok_law_is_order (P := P) T) (hr.mono (by omega)) rfl T.g_law_is_order T.F_law_is_order.kp T.b_law_is_order .nil pass0 (pa_cons (pe_callN0 (ok_order_of_web (P := P) T) (hr.mono (by omega)) rfl T.g_order_of_web T.F_order_of_web.kp T.kb_1 passL (pk_cons (pv 9) pk_nil)) (pa_cons (pv 6) pa_nil))))) (pw_or1 (pt_not (pt_val (pe_call (ok_law_same (P := P) T 72) (hr.mono (by omega)) rfl T.g_law_same T.F_law_same.kp T.b_law_same .nil pass0 (pa_cons (pe_callN0 (ok_is_order_web (P := P) T) (hr.mono (by omega)) rfl T.g_is_order_web T.F_is_order_web.kp T.kb_0 pass0 (pk_cons (pv 9) pk_nil)) (pa_cons pe_bl pa_nil)))))))) (pss_one (ps_ret pe_bl)) pss_nil)
      (pss_one (ps_ret (pe_and (pe_call (ok_law_answers (P := P) T) (hr.mono (by omega)) rfl T.g_law_answers T.F_law_answers.kp T.b_law_answers .nil pass0 (pa_cons (pv 9) (pa_cons (pv 5) (pa_cons (pv 7) (pa_cons (pv 8) (pa_cons pe_bl pa_nil)))))) (pe_one (pe_call (ok_law_is_web (P := P) T) (hr.mono (by omega)) rfl T.g_law_is_web T.F_law_is_web.kp T.b_law_is_web .nil pass0 (pa_cons (pv 9) (pa_cons (pv 5) (pa_cons (pv 7) pa_nil)))))))))))))))))))))))))))))), ?_⟩)
  · obtain ⟨a, ns, rfl, _⟩ := h
    rfl
  · obtain ⟨x, ss, rfl, hx, hl, k⟩ := h
    have zl : sizeLine = 16777216 := sizeLine_eq
    row_hasAny sx
    refine ⟨x, ss, rfl, hx, hl, fun p c H1 hp s1 S1 => ?_⟩
    refine g_name ?_

    refine p_start (X := noX none) (ρ := [.no, .sto, .no, .no, .no, .no, .no, .no, .no, .no, .no, .no, .no, .no, .no]) S1 ⟨trivial, ⟨p, c, rfl, rfl⟩, trivial, trivial, trivial, trivial, trivial, trivial, trivial, trivial, trivial, trivial, trivial, trivial, trivial, trivial⟩ rfl ?_ k
    refine p_seqC (fun ρ => ρ = [.no, .sto, .sh (.int 6), .no, .no, .no, .no, .no, .no, .no, .no, .no, .no, .no, .no]) ?_ ?_
    · row_hasAny pu
      exact rfl
    rintro ρ rfl
    refine p_seqC (fun ρ => ∃ most : Int, 0 ≤ most ∧ most ≤ 10 ∧ ρ = [.no, .sto, .sh (.int most), .no, .no, .no, .no, .no, .no, .no, .no, .no, .no, .no, .no]) ?_ ?_
    · row_hasAny pu
      refine if_d (fun h => ?_) (fun h => ?_)
      · row_hasAny pu
        exact ⟨10, by decide, by decide, rfl⟩
      · row_hasAny pu
        exact ⟨6, by decide, by decide, rfl⟩
    rintro ρ ⟨most, m0, m1, rfl⟩
    refine p_seqC (fun ρ => ∃ (N : Nat) (A : List (Int × Int)), N ≤ 10 ∧ Rising N A ∧ A.length ≤ 100 ∧ ρ = [.no, .sto, .sh (.int most), .ow [.int (N : Int), .lst (A.map prE)], .no, .no, .no, .no, .no, .no, .no, .no, .no, .no, .no]) ?_ ?_
    · row_hasAny pu
      refine cbN rfl ⟨m0, by omega⟩ ?_
      rintro m ⟨N, A, rfl, h1, h2, h3⟩
      have h4 : N ≤ 10 := by omega
      row_hasAny pu
      exact ⟨N, A, h4, h2, Nat.le_trans h3 (Nat.mul_le_mul h4 h4), rfl⟩
    rintro ρ ⟨N, A, hN, hA, hAl, rfl⟩
    refine p_frS 3 rfl nofun ?_
    refine p_seqC (fun ρ => ∃ (e : Pl.E) (m4 : M), m4.frz = .sh e ∧ m4 ≠ .no ∧ pairsOf A e ∧ ρ = [.no, .sto, .sh (.int most), .sh (.lst [.int (N : Int), .lst (A.map prE)]), m4, .no, .no, .no, .no, .no, .no, .no, .no, .no, .no]) ?_ ?_
    · row_hasAny pu
      refine cbN rfl ⟨A, rfl, by omega⟩ fun m hm => ?_
      obtain ⟨e, g1, g2, g3⟩ := hm A rfl
      refine p_gname ?_
      exact ⟨e, m, g1, g2, g3, rfl⟩
    rintro ρ ⟨e, m4, hm1, hm2, hpo, rfl⟩
    refine p_frS 4 rfl hm2 ?_
    rw [hm1]
    refine p_seqC (fun ρ => ∃ (N : Nat) (A : List (Int × Int)) (e : Pl.E) (m4 z5 : M), caseP N A ∧ N ≤ 64 ∧ Rising N A ∧ A.length ≤ 100 ∧ m4.frz = .sh e ∧ m4 ≠ .no ∧ pairsOf A e ∧ ρ = [.no, .sto, .sh (.int most), .sh (.lst [.int (N : Int), .lst (A.map prE)]), m4, z5, .no, .no, .no, .no, .no, .no, .no, .no, .no]) ?_ ?_
    · row_hasAny pu
      refine if_d (fun h => ?_) (fun h => ?_)
      · clear hpo hAl hA hN hm1 hm2
        refine p_seqC (fun ρ => ∃ n : Nat, (n = 63 ∨ n = 64) ∧ ρ = [.no, .sto, .sh (.int most), .sh (.lst [.int (N : Int), .lst (A.map prE)]), .sh e, .sh (.int (n : Int)), .no, .no, .no, .no, .no, .no, .no, .no, .no]) ?_ ?_
        · row_hasAny pu
          rename_i t t0 t1
          obtain ⟨t, rfl⟩ := Int.eq_ofNat_of_zero_le t0
          exact ⟨63 + t, by omega, rfl⟩
        rintro ρ ⟨n, hn, rfl⟩
        refine p_seqC (fun ρ => ρ = [.no, .sto, .sh (.int most), .ow [.int (n : Int), .lst ((chL n).map prE)], .sh e, .sh (.int (n : Int)), .no, .no, .no, .no, .no, .no, .no, .no, .no]) ?_ ?_
        · row_hasAny pu
          refine p_lc (fun L i acc => L.length = n - 1 ∧ acc = ((List.range i).map fun k : Nat => ((k : Int), (k : Int) + 1)).map prE) ?_
          row_hasAny pu
          refine ⟨by rw [rng_len]; omega, ⟨by rw [rng_len]; omega, rfl⟩, ?_, ?_⟩
          · rintro i x acc hx ⟨hL, rfl⟩
            obtain ⟨_, rfl⟩ := rng_at hx
            rw [Int.zero_add]
            row_hasAny pu
            exact ⟨rfl, _, rfl, hL, by rw [List.range_succ]; simp [prE]⟩
          · rintro acc ⟨hL, rfl⟩
            rw [hL]
            row_hasAny pu
            exact rfl
        rintro ρ rfl
        refine p_seqC (fun ρ => ∃ (N : Nat) (A : List (Int × Int)), caseP N A ∧ N ≤ 64 ∧ Rising N A ∧ A.length ≤ 100 ∧ ρ = [.no, .sto, .sh (.int most), .ow [.int (N : Int), .lst (A.map prE)], .sh e, .sh (.int (n : Int)), .no, .no, .no, .no, .no, .no, .no, .no, .no]) ?_ ?_
        · row_hasAny pu
          refine if_d (fun h => ?_) (fun h => ?_)
          · row_hasAny pu
            rename_i t t0 t1
            obtain ⟨t, rfl⟩ := Int.eq_ofNat_of_zero_le t0
            exact ⟨45 + t, [], .inr (.inr ⟨by omega, rfl⟩), by omega, Rising.nil, Nat.zero_le _, rfl⟩
          · row_hasAny pu
            exact ⟨n, chL n, .inr (.inl ⟨hn, rfl⟩), by omega, chL_rising n, by unfold chL; rw [List.length_map, List.length_range]; omega, rfl⟩
        rintro ρ ⟨N, A, hc, hN, hA, hAl, rfl⟩
        refine p_frS 3 rfl nofun ?_
        row_hasAny pu
        exact ⟨N, A, .lst (A.map prE), .ow (A.map prE), _, hc, hN, hA, hAl, rfl, nofun, pairsOf_self A, rfl⟩
      · row_hasAny pu
        exact ⟨N, A, e, .sh e, _, .inl hN, by omega, hA, hAl, rfl, nofun, hpo, rfl⟩
    clear hpo hAl hA hN hm1 hm2
    rintro ρ ⟨N, A, e, m4, z5, hc, hN, hA, hAl, hm1, hm2, hpo, rfl⟩
    refine p_frS 4 rfl hm2 ?_
    rw [hm1]
    refine p_seqC (fun ρ => ρ = [.no, .sto, .sh (.int most), .sh (.lst [.int (N : Int), .lst (A.map prE)]), .sh e, .sh (.int (N : Int)), .no, .no, .no, .no, .no, .no, .no, .no, .no]) ?_ ?_
    · row_hasAny pu
      exact rfl
    rintro ρ rfl
    refine p_noS 2 rfl ?_
    refine p_seqC (fun ρ => ∃ f : Nat → Nat → Bool, (∀ a b : Nat, a < N → b < N → (f a b = true ↔ Rch A a b)) ∧ ρ = [.no, .sto, .no, .sh (.lst [.int (N : Int), .lst (A.map prE)]), .sh e, .sh (.int (N : Int)), .sh (.lst ((tab N f).map .lst)), .no, .no, .no, .no, .no, .no, .no, .no]) ?_ ?_
    · row_hasAny pu
      refine cbN rfl ⟨N, A, rfl, by omega, rfl, hA, by omega⟩ fun m hm => ?_
      obtain ⟨f, rfl, hf⟩ := hm N A rfl rfl
      row_hasAny pu
      exact ⟨f, hf, rfl⟩
    rintro ρ ⟨f, hf, rfl⟩
    refine p_noS 3 rfl ?_
    refine p_seqC (fun ρ => ρ = [.no, .sto, .no, .no, .sh e, .sh (.int (N : Int)), .sh (.lst ((tab N f).map .lst)), .ow ((raF N f).map prE), .no, .no, .no, .no, .no, .no, .no]) ?_ ?_
    · row_hasAny pu
      refine cbN rfl ⟨N, f, by omega, rfl⟩ fun m hm => ?_
      obtain rfl := hm N f rfl
      row_hasAny pu
      exact rfl
    rintro ρ rfl
    refine p_frS 7 rfl nofun ?_
    refine p_seqC (fun ρ => ∃ os : List Nat, OrdT os ∧ os.length = N ∧ (∀ x y : Nat, x < N → y < N → (bt os x y = true ↔ Rch A x y)) ∧ ρ = [.no, .sto, .no, .no, .sh e, .sh (.int (N : Int)), .sh (.lst ((tab N f).map .lst)), .sh (.lst ((raF N f).map prE)), .sh (ordE a os), .no, .no, .no, .no, .no, .no]) ?_ ?_
    · obtain ⟨es, A', g3, g4, g5, g6, g7⟩ := hpo
      have hR' : Rising N A' := fun p hp => hA p ((g5 p).mp hp)
      row_hasAny pu
      refine u_OrdS (by omega) g3 g4 g7 (by have := (allPr_at g4).1; omega) hR' fun os hI O => ?_
      row_hasAny pu
      exact ⟨os, O, hI.1, fun x y hx hy => (hI.2 x y hx).trans ⟨Rch.mono fun p hp => (g5 p).mp hp, Rch.mono fun p hp => (g5 p).mpr hp⟩, rfl⟩
    rintro ρ ⟨os, O, hl, hr, rfl⟩
    refine p_noS 4 rfl ?_
    have hfe : ∀ x y, x < N → y < N → f x y = bt os x y := fun x y hx hy => by
      rw [Bool.eq_iff_iff, hf x y hx hy, hr x y hx hy]
    rw [tab_congr hfe, raF_congr hfe]
    clear hfe hf hpo
    have hlen := case_len hc hA O hl hr
    clear hr hc hA hAl
    have iso : isOf K a.Order (ordE a os) true := iso_self T.is_Order
    have hRa := raF_asc N (bt os)
    have hRW := raF_within N (bt os)
    have hb0 : ∀ x y, x < N → y < N → bt os x y = tF (raF N (bt os)) x y := (raF_ext hRa hRW).mp rfl
    have eW := hl
    refine p_seqC (fun ρ => ∃ z9 : M, ((2000 < (raF N (bt os)).length ∧ z9 = .sh (.tup [.str "TooMany", .int 2000, .bl true])) ∨ ((raF N (bt os)).length ≤ 2000 ∧ ∃ ks, Wb N ks (raF N (bt os)) ∧ z9 = .sh (.ob a.Web (webF N ks (raF N (bt os)))))) ∧ ρ = [.no, .sto, .no, .no, .no, .sh (.int (N : Int)), .sh (.lst ((tab N (bt os)).map .lst)), .sh (.lst ((raF N (bt os)).map prE)), .sh (ordE a os), z9, .no, .no, .no, .no, .no]) ?_ ?_
    · row_hasAny pu
      refine u_aw O iso (fun h => ?_) (fun h ks hW => ?_)
      · rw [hl] at h
        refine p_gname ?_
        exact ⟨_, .inl ⟨h, rfl⟩, rfl⟩
      · rw [hl] at h hW ⊢
        refine p_gname ?_
        exact ⟨_, .inr ⟨h, ks, hW, rfl⟩, rfl⟩
    rintro ρ ⟨z9, hz9, rfl⟩
    refine p_seqC (fun ρ => ∃ ks, (raF N (bt os)).length ≤ 2000 ∧ Wb N ks (raF N (bt os)) ∧ ρ = [.no, .sto, .no, .no, .no, .sh (.int (N : Int)), .sh (.lst ((tab N (bt os)).map .lst)), .sh (.lst ((raF N (bt os)).map prE)), .sh (ordE a os), .sh (.ob a.Web (webF N ks (raF N (bt os)))), .no, .no, .no, .no, .no]) ?_ ?_
    · rcases hz9 with ⟨h, rfl⟩ | ⟨h, ks, hW, rfl⟩
      · row_hasAny pu
        rw [List.length_map]
        refine if_d (fun h1 => ?_) (fun h1 => ?_)
        · row_hasAny pu
          refine u_same rfl ⟨rfl, by show 1 + max 0 (max 0 (max 0 0)) < 72; decide⟩ ?_
          exact rfl
        · omega
      · row_hasAny pu
        rw [List.length_map]
        refine if_d (fun h1 => ?_) (fun h1 => ?_)
        · omega
        · row_hasAny pu
          exact ⟨ks, h, hW, rfl⟩
    rintro ρ ⟨ks, h2000, hWb, rfl⟩
    have hlen := hlen h2000
    have how : owP N (raF N (bt os)) := ⟨by
      refine Classical.byContradiction fun h3 => ?_
      have h4 := raF_big O (by omega)
      rw [hl] at h4
      omega, ord_isT O hl hb0⟩
    obtain ⟨R, hR⟩ : ∃ R, raF N (bt os) = R := ⟨_, rfl⟩
    rw [hR] at hRa hRW hb0 h2000 hWb how hlen ⊢
    have isw : isOf K a.Web (.ob a.Web (webF N ks R)) true := iso_self T.is_Web
    have hsO : ∀ rs, OrdT rs → rs.length = N → (∀ x y, x < N → y < N → bt rs x y = tF R x y) → true = decide (rs = os) := fun rs O2 hl2 hb => (decide_eq_true ((same_iff O hl hR.symm hRa hRW O2 hl2 hb).mp ⟨rfl, rfl⟩)).symm
    refine p_seqC (fun ρ => ρ = [.no, .sto, .no, .no, .no, .sh (.int (N : Int)), .sh (.lst ((tab N (bt os)).map .lst)), .sh (.lst (R.map prE)), .sh (ordE a os), .sh (.ob a.Web (webF N ks R)), .no, .no, .no, .no, .no]) ?_ ?_
    · row_hasAny pu
      refine u_isw hWb ?_
      row_hasAny pu
      refine cb1 rfl ⟨N, ks, R, os, rfl, hWb, rfl, rfl, rfl, O, hsO⟩ ?_
      row_hasAny pu
      exact rfl
    rintro ρ rfl
    refine p_seqC (fun ρ => ∃ B : List (Int × Int), B.Pairwise plt ∧ Within N B ∧ B.length ≤ R.length + 3 ∧ ρ = [.no, .sto, .no, .no, .no, .sh (.int (N : Int)), .sh (.lst ((tab N (bt os)).map .lst)), .sh (.lst (R.map prE)), .sh (ordE a os), .sh (.ob a.Web (webF N ks R)), .ow (B.map prE), .no, .no, .no, .no]) ?_ ?_
    · row_hasAny pu
      refine cbN rfl ⟨N, R, rfl, rfl, by omega, hRa, hRW, by omega⟩ fun m hm => ?_
      obtain ⟨B, rfl, hB, hBW, hBl⟩ := hm N R rfl rfl
      row_hasAny pu
      exact ⟨B, hB, hBW, hBl, rfl⟩
    rintro ρ ⟨B, hB, hBW, hBl, rfl⟩
    refine p_frS 10 rfl nofun ?_
    have hBs : arrS B = B := arrS_self hB
    refine p_seqC (fun ρ => ∃ js, Wb N js B ∧ ρ = [.no, .sto, .no, .no, .no, .sh (.int (N : Int)), .sh (.lst ((tab N (bt os)).map .lst)), .sh (.lst (R.map prE)), .sh (ordE a os), .sh (.ob a.Web (webF N ks R)), .sh (.lst (B.map prE)), .sh (.ob a.Web (webF N js B)), .no, .no, .no]) ?_ ?_
    · row_hasAny pu
      refine u_WebT (by omega) (by omega) hBW (by rw [hBs]; omega) fun hW2 => ?_
      rw [hBs] at hW2 ⊢
      row_hasAny pu
      exact ⟨_, hW2, rfl⟩
    rintro ρ ⟨js, hW2, rfl⟩
    refine p_seqC (fun ρ => ρ = [.no, .sto, .no, .no, .no, .sh (.int (N : Int)), .sh (.lst ((tab N (bt os)).map .lst)), .sh (.lst (R.map prE)), .sh (ordE a os), .sh (.ob a.Web (webF N ks R)), .sh (.lst (B.map prE)), .sh (.ob a.Web (webF N js B)), .no, .no, .no]) ?_ ?_
    · row_hasAny pu
      refine v_eqP (pairs_lay _) (pairs_lay _) (Nat.le_trans (pairs_dep _) (by decide)) (Nat.le_trans (pairs_dep _) (by decide)) ?_
      rw [eqE_prs]
      row_hasAny pu
      refine cb1 rfl ⟨N, js, B, os, rfl, hW2, rfl, rfl, rfl, O, fun rs O2 hl2 hb => decide_eq_decide.mpr ((and_iff_right rfl).symm.trans (same_iff O hl hR.symm hB hBW O2 hl2 hb))⟩ ?_
      row_hasAny pu
      exact rfl
    rintro ρ rfl
    clear hW2 hBs hBl hBW hB
    refine p_noS 10 rfl ?_
    refine p_noS 11 rfl ?_
    refine p_seqC (fun ρ => ∃ (W : Nat) (C : List (Int × Int)), W ≤ 4 ∧ C.Pairwise plt ∧ Within W C ∧ C.length ≤ 16 ∧ ρ = [.no, .sto, .no, .no, .no, .sh (.int (N : Int)), .sh (.lst ((tab N (bt os)).map .lst)), .sh (.lst (R.map prE)), .sh (ordE a os), .sh (.ob a.Web (webF N ks R)), .no, .no, .ow [.int (W : Int), .lst (C.map prE)], .no, .no]) ?_ ?_
    · row_hasAny pu
      refine cbN rfl ⟨by decide, by decide⟩ ?_
      rintro m ⟨W, C, rfl, h1, h2, h3, h4⟩
      have h5 : W ≤ 4 := by omega
      row_hasAny pu
      exact ⟨W, C, h5, h2, h3, Nat.le_trans h4 (Nat.mul_le_mul h5 h5), rfl⟩
    rintro ρ ⟨W, C, hW4, hC, hCW, hCl, rfl⟩
    refine p_seqC (fun ρ => ∃ (W : Nat) (C : List (Int × Int)), W ≤ 300 ∧ C.Pairwise plt ∧ Within W C ∧ C.length ≤ 300 ∧ ρ = [.no, .sto, .no, .no, .no, .sh (.int (N : Int)), .sh (.lst ((tab N (bt os)).map .lst)), .sh (.lst (R.map prE)), .sh (ordE a os), .sh (.ob a.Web (webF N ks R)), .no, .no, .ow [.int (W : Int), .lst (C.map prE)], .no, .no]) ?_ ?_
    · row_hasAny pu
      refine if_d (fun h => ?_) (fun h => ?_)
      · refine p_seqC (fun ρ => ∃ W : Nat, W ≤ 219 ∧ ρ = [.no, .sto, .no, .no, .no, .sh (.int (N : Int)), .sh (.lst ((tab N (bt os)).map .lst)), .sh (.lst (R.map prE)), .sh (ordE a os), .sh (.ob a.Web (webF N ks R)), .no, .no, .ow [.int (W : Int), .lst []], .no, .no]) ?_ ?_
        · row_hasAny pu
          rename_i t t0 t1
          obtain ⟨t, rfl⟩ := Int.eq_ofNat_of_zero_le t0
          exact ⟨190 + t, by omega, rfl⟩
        rintro ρ ⟨W, hW, rfl⟩
        row_hasAny pu
        refine if_d (fun h => ?_) (fun h => ?_)
        · row_hasAny pu
          rw [Int.toNat_natCast]
          refine ⟨W, namL W 1, by omega, namL_asc W 1, namL_within W 1, ?_, rfl⟩
          rw [show namL W 1 = pathL W from rfl]
          unfold pathL
          rw [List.length_map, List.length_range]
          omega
        · row_hasAny pu
          exact ⟨W, [], by omega, .nil, nofun, Nat.zero_le _, rfl⟩
      · row_hasAny pu
        exact ⟨W, C, by omega, hC, hCW, by omega, rfl⟩
    clear hCl hCW hC hW4
    rintro ρ ⟨W, C, hW, hC, hCW, hCl, rfl⟩
    refine p_frS 12 rfl nofun ?_
    have hCs : arrS C = C := arrS_self hC
    refine p_seqC (fun ρ => ρ = [.no, .sto, .no, .no, .no, .sh (.int (N : Int)), .sh (.lst ((tab N (bt os)).map .lst)), .sh (.lst (R.map prE)), .sh (ordE a os), .sh (.ob a.Web (webF N ks R)), .no, .no, .sh (.lst [.int (W : Int), .lst (C.map prE)]), .sh (.bl (decide (W = N ∧ C = R))), .no]) ?_ ?_
    · row_hasAny pu
      refine if_d (fun h => ?_) (fun h => ?_)
      · rw [show decide (W = N ∧ C = R) = decide (C = R) from decide_eq_decide.mpr ⟨fun h2 => h2.2, fun h2 => ⟨by omega, h2⟩⟩]
        row_hasAny pu
        refine v_eqP (pairs_lay _) (pairs_lay _) (Nat.le_trans (pairs_dep _) (by decide)) (Nat.le_trans (pairs_dep _) (by decide)) ?_
        rw [eqE_prs]
        refine p_gname ?_
        exact rfl
      · rw [show decide (W = N ∧ C = R) = false from decide_eq_false fun h2 => h (by omega)]
        row_hasAny pu
        exact rfl
    rintro ρ rfl
    refine p_seqC (fun ρ => ∃ z12 z13 : M, ρ = [.no, .sto, .no, .no, .no, .sh (.int (N : Int)), .sh (.lst ((tab N (bt os)).map .lst)), .sh (.lst (R.map prE)), .sh (ordE a os), .sh (.ob a.Web (webF N ks R)), .no, .no, z12, z13, .no]) ?_ ?_
    · row_hasAny pu
      rename_i m e hfe hse hno
      refine ⟨_, hfe, ?_⟩
      rcases sq_cases hse with rfl | rfl
      · row_hasAny pu
        refine u_WebG (A := C) (es := C.map prE) (by omega) rfl (allPr_map C) trivial (fun x hx => by
          obtain ⟨p, _, rfl⟩ := List.mem_map.mp hx
          exact kn2_plain rfl) (by rw [List.length_map]; omega) hCW (fun h => ?_) (fun h => absurd h (by rw [hCs]; omega))
        have hW3 := Wb.new (show W ≤ 2000 by omega) hCW h
        rw [hCs] at hW3 ⊢
        row_hasAny pu
        refine cb1 rfl ⟨W, _, C, os, rfl, hW3, rfl, rfl, rfl, O, fun rs O2 hl2 hb => decide_eq_decide.mpr (same_iff O hl hR.symm hC hCW O2 hl2 hb)⟩ ?_
        row_hasAny pu
        exact ⟨_, _, rfl⟩
      · row_hasAny pu
        refine u_WebG (A := C) (es := C.map prE) (by omega) rfl (allPr_map C) trivial (fun x hx => by
          obtain ⟨p, _, rfl⟩ := List.mem_map.mp hx
          exact kn2_plain rfl) (by rw [List.length_map]; omega) hCW (fun h => ?_) (fun h => absurd h (by rw [hCs]; omega))
        have hW3 := Wb.new (show W ≤ 2000 by omega) hCW h
        rw [hCs] at hW3 ⊢
        row_hasAny pu
        refine cb1 rfl ⟨W, _, C, os, rfl, hW3, rfl, rfl, rfl, O, fun rs O2 hl2 hb => decide_eq_decide.mpr (same_iff O hl hR.symm hC hCW O2 hl2 hb)⟩ ?_
        row_hasAny pu
        exact ⟨_, _, rfl⟩
    rintro ρ ⟨z12, z13, rfl⟩
    refine p_noS 12 rfl ?_
    refine p_noS 13 rfl ?_
    refine p_seqC (fun ρ => ρ = [.no, .sto, .no, .no, .no, .sh (.int (N : Int)), .sh (.lst ((tab N (bt os)).map .lst)), .sh (.lst (R.map prE)), .sh (ordE a os), .sh (.ob a.Web (webF N ks R)), .no, .no, .no, .no, .no]) ?_ ?_
    · row_hasAny pu
      refine cbN rfl trivial fun m hm => ?_
      obtain ⟨e, g1, g2, g3⟩ := hm
      refine ⟨_, g1, ?_⟩
      row_hasAny pu
      refine cb1 rfl ⟨N, ks, R, os, g2, rfl, hWb, rfl, O⟩ ?_
      row_hasAny pu
      exact rfl
    rintro ρ rfl
    have eTB : tab N (bt os) = tab os.length (bt os) := by rw [hl]
    refine p_seqC (fun ρ => ρ = [.no, .sto, .no, .no, .no, .sh (.int (N : Int)), .sh (.lst ((tab N (bt os)).map .lst)), .sh (.lst (R.map prE)), .sh (ordE a os), .sh (.ob a.Web (webF N ks R)), .no, .no, .no, .no, .no]) ?_ ?_
    · row_hasAny pu
      refine q_callN1 rfl ?_
      row_hasAny pu
      refine ⟨_, rfl, .inl ⟨N, ks, R, hWb, rfl⟩, fun cls xd h => ?_, fun m hm => ?_⟩
      · obtain ⟨_, _, h | ⟨n', ks', As', hW', e', hno⟩⟩ := h
        · exact absurd (iso_fun isw h) (by decide)
        · obtain ⟨rfl, rfl⟩ := webF_inj hWb hW' e'
          exact hno how
      · obtain ⟨n', ks', As', rs, e', hW', _, O2, hl2, hb, rfl⟩ := hm
        obtain ⟨rfl, rfl⟩ := webF_inj hWb hW' e'
        obtain rfl := (same_iff O hl hR.symm hRa hRW O2 hl2 hb).mp ⟨rfl, rfl⟩
        rw [eTB]
        row_hasAny pu
        refine u_iso O ?_
        row_hasAny pu
        refine q_callN1 rfl ?_
        row_hasAny pu
        refine u_iow hWb isw (fun h => absurd how h) (fun _ => ?_)
        row_hasAny pu
        refine u_same rfl (nice_bl _) ?_
        row_hasAny pu
        exact rfl
    rintro ρ rfl
    row_hasAny pu
    refine cb1 rfl ⟨N, ks, R, os, rfl, hWb, rfl, rfl, rfl, O, hsO⟩ ?_
    row_hasAny pu
    refine u_isw hWb ?_
    exact rfl

end
theorem facts {P : Program} {w : World} {K : PySem.W.Frag} {h : Heap} {mg : Str → Option Value} {f : Addr} (X : K.In h) (G : h.Ns mainGlobals mg) (hfa : mg ("law" : Str) = some (.ref f)) (c : SaysB chs fns K) :
    ∃ fd : FuncData, (∀ (s : Shared) (v : Value), BindsTo s fd ⟨[v], []⟩ [("script", v)]) ∧ ∀ base : Heap, K.In base → base.Ns mainGlobals mg → FnOk P w K mg base CX0 77 f fd ["script"] (sp_law K) := by
  obtain ⟨fd0, F0⟩ := c.def_ 0 (d := dd_BadWeb__init__) rfl
  obtain ⟨fd1, F1⟩ := c.def_ 1 (d := dd_BadOrder__init__) rfl
  obtain ⟨fd2, F2⟩ := c.def_ 2 (d := dd_TooMany__init__) rfl
  obtain ⟨fd3, F3⟩ := c.def_ 3 (d := dd_is_whole) rfl
  obtain ⟨fd4, F4⟩ := c.def_ 4 (d := dd_is_sequence) rfl
  obtain ⟨fd5, F5⟩ := c.def_ 5 (d := dd_is_between) rfl
  obtain ⟨fd6, F6⟩ := c.def_ 6 (d := dd_check_number) rfl
  obtain ⟨fd7, F7⟩ := c.def_ 7 (d := dd_reach_of) rfl
  obtain ⟨fd8, F8⟩ := c.def_ 8 (d := dd_is_rising_pair) rfl
  obtain ⟨fd9, F9⟩ := c.def_ 9 (d := dd_Order__init__) rfl
  obtain ⟨fd10, F10⟩ := c.def_ 10 (d := dd_Order__len__) rfl
  obtain ⟨fd11, F11⟩ := c.def_ 11 (d := dd_Order__eq__) rfl
  obtain ⟨fd12, F12⟩ := c.def_ 12 (d := dd_Order__ne__) rfl
  obtain ⟨fd13, F13⟩ := c.def_ 13 (d := dd_Order_size) rfl
  obtain ⟨fd14, F14⟩ := c.def_ 14 (d := dd_things_in) rfl
  obtain ⟨fd15, F15⟩ := c.def_ 15 (d := dd_next_above) rfl
  obtain ⟨fd16, F16⟩ := c.def_ 16 (d := dd_Order_covers) rfl
  obtain ⟨fd17, F17⟩ := c.def_ 17 (d := dd_check_thing) rfl
  obtain ⟨fd18, F18⟩ := c.def_ 18 (d := dd_Order_at_or_below) rfl
  obtain ⟨fd19, F19⟩ := c.def_ 19 (d := dd_check_order) rfl
  obtain ⟨fd20, F20⟩ := c.def_ 20 (d := dd_is_place_pair) rfl
  obtain ⟨fd21, F21⟩ := c.def_ 21 (d := dd_Web__init__) rfl
  obtain ⟨fd22, F22⟩ := c.def_ 22 (d := dd_Web__len__) rfl
  obtain ⟨fd23, F23⟩ := c.def_ 23 (d := dd_Web__contains__) rfl
  obtain ⟨fd24, F24⟩ := c.def_ 24 (d := dd_Web_places) rfl
  obtain ⟨fd25, F25⟩ := c.def_ 25 (d := dd_Web_arrows) rfl
  obtain ⟨fd26, F26⟩ := c.def_ 26 (d := dd_joins) rfl
  obtain ⟨fd27, F27⟩ := c.def_ 27 (d := dd_rule_arrows) rfl
  obtain ⟨fd28, F28⟩ := c.def_ 28 (d := dd_order_web) rfl
  obtain ⟨fd29, F29⟩ := c.def_ 29 (d := dd_read_order) rfl
  obtain ⟨fd30, F30⟩ := c.def_ 30 (d := dd_is_order_web) rfl
  obtain ⟨fd31, F31⟩ := c.def_ 31 (d := dd_order_of_web) rfl
  obtain ⟨fd32, F32⟩ := c.def_ 32 (d := dd_law_mix) rfl
  obtain ⟨fd33, F33⟩ := c.def_ 33 (d := dd_law_store) rfl
  obtain ⟨fd34, F34⟩ := c.def_ 34 (d := dd_law_take) rfl
  obtain ⟨fd35, F35⟩ := c.def_ 35 (d := dd_law_between) rfl
  obtain ⟨fd36, F36⟩ := c.def_ 36 (d := dd_law_edge) rfl
  obtain ⟨fd37, F37⟩ := c.def_ 37 (d := dd_law_pick) rfl
  obtain ⟨fd38, F38⟩ := c.def_ 38 (d := dd_law_shuffled) rfl
  obtain ⟨fd39, F39⟩ := c.def_ 39 (d := dd_law_form) rfl
  obtain ⟨fd40, F40⟩ := c.def_ 40 (d := dd_law_odd) rfl
  obtain ⟨fd41, F41⟩ := c.def_ 41 (d := dd_law_far) rfl
  obtain ⟨fd42, F42⟩ := c.def_ 42 (d := dd_law_any) rfl
  obtain ⟨fd43, F43⟩ := c.def_ 43 (d := dd_law_named_arrows) rfl
  obtain ⟨fd44, F44⟩ := c.def_ 44 (d := dd_law_web) rfl
  obtain ⟨fd45, F45⟩ := c.def_ 45 (d := dd_law_pair_forms) rfl
  obtain ⟨fd46, F46⟩ := c.def_ 46 (d := dd_law_order) rfl
  obtain ⟨fd47, F47⟩ := c.def_ 47 (d := dd_law_below) rfl
  obtain ⟨fd48, F48⟩ := c.def_ 48 (d := dd_law_covers) rfl
  obtain ⟨fd49, F49⟩ := c.def_ 49 (d := dd_law_is_integer) rfl
  obtain ⟨fd50, F50⟩ := c.def_ 50 (d := dd_law_same) rfl
  obtain ⟨fd51, F51⟩ := c.def_ 51 (d := dd_law_order_arrows) rfl
  obtain ⟨fd52, F52⟩ := c.def_ 52 (d := dd_law_table_of) rfl
  obtain ⟨fd53, F53⟩ := c.def_ 53 (d := dd_law_toggled) rfl
  obtain ⟨fd54, F54⟩ := c.def_ 54 (d := dd_law_changed) rfl
  obtain ⟨fd55, F55⟩ := c.def_ 55 (d := dd_law_ask_web) rfl
  obtain ⟨fd56, F56⟩ := c.def_ 56 (d := dd_law_ask_order) rfl
  obtain ⟨fd57, F57⟩ := c.def_ 57 (d := dd_law_is_order) rfl
  obtain ⟨fd58, F58⟩ := c.def_ 58 (d := dd_law_is_web) rfl
  obtain ⟨fd59, F59⟩ := c.def_ 59 (d := dd_law_answers) rfl
  obtain ⟨fd60, F60⟩ := c.def_ 60 (d := dd_law_odd_refused) rfl
  obtain ⟨fd61, F61⟩ := c.def_ 61 (d := dd_law) rfl
  have T : Txt K mg ⟨He.fAd K ("BadWeb", some "__init__"), He.fAd K ("BadOrder", some "__init__"), He.fAd K ("TooMany", some "__init__"), He.fAd K ("is_whole", none), He.fAd K ("is_sequence", none), He.fAd K ("is_between", none), He.fAd K ("check_number", none), He.fAd K ("_reach_of", none), He.fAd K ("_is_rising_pair", none), He.fAd K ("Order", some "__init__"), He.fAd K ("Order", some "__len__"), He.fAd K ("Order", some "__eq__"), He.fAd K ("Order", some "__ne__"), prAd K "Order" "size", He.fAd K ("things_in", none), He.fAd K ("_next_above", none), prAd K "Order" "covers", He.fAd K ("check_thing", none), He.fAd K ("Order", some "at_or_below"), He.fAd K ("check_order", none), He.fAd K ("_is_place_pair", none), He.fAd K ("Web", some "__init__"), He.fAd K ("Web", some "__len__"), He.fAd K ("Web", some "__contains__"), prAd K "Web" "places", prAd K "Web" "arrows", He.fAd K ("joins", none), He.fAd K ("_rule_arrows", none), He.fAd K ("order_web", none), He.fAd K ("_read_order", none), He.fAd K ("is_order_web", none), He.fAd K ("order_of_web", none), He.fAd K ("_law_mix", none), He.fAd K ("_law_store", none), He.fAd K ("_law_take", none), He.fAd K ("_law_between", none), He.fAd K ("_law_edge", none), He.fAd K ("_law_pick", none), He.fAd K ("_law_shuffled", none), He.fAd K ("_law_form", none), He.fAd K ("_law_odd", none), He.fAd K ("_law_far", none), He.fAd K ("_law_any", none), He.fAd K ("_law_named_arrows", none), He.fAd K ("_law_web", none), He.fAd K ("_law_pair_forms", none), He.fAd K ("_law_order", none), He.fAd K ("_law_below", none), He.fAd K ("_law_covers", none), He.fAd K ("_law_is_integer", none), He.fAd K ("_law_same", none), He.fAd K ("_law_order_arrows", none), He.fAd K ("_law_table_of", none), He.fAd K ("_law_toggled", none), He.fAd K ("_law_changed", none), He.fAd K ("_law_ask_web", none), He.fAd K ("_law_ask_order", none), He.fAd K ("_law_is_order", none), He.fAd K ("_law_is_web", none), He.fAd K ("_law_answers", none), He.fAd K ("_law_odd_refused", none), He.fAd K ("law", none), He.ga K "BadNumber", He.ga K "BadOrder", He.ga K "BadWeb", He.ga K "HueError", He.ga K "Order", He.ga K "TooMany", He.ga K "Web", He.dflAt ("Order", some "__init__") 0 K, He.dflAt ("Web", some "__init__") 0 K, He.ma K (He.ga K "Order") "covers", He.ma K (He.ga K "Order") "size", He.ma K (He.ga K "Web") "arrows", He.ma K (He.ga K "Web") "places"⟩ ⟨fd0, fd1, fd2, fd3, fd4, fd5, fd6, fd7, fd8, fd9, fd10, fd11, fd12, fd13, fd14, fd15, fd16, fd17, fd18, fd19, fd20, fd21, fd22, fd23, fd24, fd25, fd26, fd27, fd28, fd29, fd30, fd31, fd32, fd33, fd34, fd35, fd36, fd37, fd38, fd39, fd40, fd41, fd42, fd43, fd44, fd45, fd46, fd47, fd48, fd49, fd50, fd51, fd52, fd53, fd54, fd55, fd56, fd57, fd58, fd59, fd60, fd61⟩ := {
    F_BadWeb__init__ := funD_fun F0,
    b_BadWeb__init__ := FunD.bindsN F0 fun _ _ _ _ _ _ us hl => match us, hl with | [_, _], _ => rfl,
    F_BadOrder__init__ := funD_fun F1,
    b_BadOrder__init__ := FunD.bindsN F1 fun _ _ _ _ _ _ us hl => match us, hl with | [_, _], _ => rfl,
    F_TooMany__init__ := funD_fun F2,
    b_TooMany__init__ := FunD.bindsN F2 fun _ _ _ _ _ _ us hl => match us, hl with | [_, _], _ => rfl,
    g_is_whole := He.glo_ok X G (c.ck 0 (f := cFa (.glo "is_whole")) rfl),
    F_is_whole := funD_fun F3,
    b_is_whole := FunD.bindsN F3 fun _ _ _ _ _ _ us hl => match us, hl with | [_], _ => rfl,
    g_is_sequence := He.glo_ok X G (c.ck 1 (f := cFa (.glo "is_sequence")) rfl),
    F_is_sequence := funD_fun F4,
    b_is_sequence := FunD.bindsN F4 fun _ _ _ _ _ _ us hl => match us, hl with | [_], _ => rfl,
    g_is_between := He.glo_ok X G (c.ck 2 (f := cFa (.glo "is_between")) rfl),
    F_is_between := funD_fun F5,
    b_is_between := FunD.bindsN F5 fun _ _ _ _ _ _ us hl => match us, hl with | [_, _, _], _ => rfl,
    g_check_number := He.glo_ok X G (c.ck 3 (f := cFa (.glo "check_number")) rfl),
    F_check_number := funD_fun F6,
    b_check_number := FunD.bindsN F6 fun _ _ _ _ _ _ us hl => match us, hl with | [_, _, _], _ => rfl,
    g_reach_of := He.glo_ok X G (c.ck 4 (f := cFa (.glo "_reach_of")) rfl),
    F_reach_of := funD_fun F7,
    b_reach_of := FunD.bindsN F7 fun _ _ _ _ _ _ us hl => match us, hl with | [_, _], _ => rfl,
    g_is_rising_pair := He.glo_ok X G (c.ck 5 (f := cFa (.glo "_is_rising_pair")) rfl),
    F_is_rising_pair := funD_fun F8,
    b_is_rising_pair := FunD.bindsN F8 fun _ _ _ _ _ _ us hl => match us, hl with | [_, _], _ => rfl,
    F_Order__init__ := F9,
    em_Order__init___0 := dtB_ok (c.ck 6 (f := dtB ("Order", some "__init__") 0) rfl),
    F_Order__len__ := funD_fun F10,
    b_Order__len__ := FunD.bindsN F10 fun _ _ _ _ _ _ us hl => match us, hl with | [_], _ => rfl,
    F_Order__eq__ := funD_fun F11,
    b_Order__eq__ := FunD.bindsN F11 fun _ _ _ _ _ _ us hl => match us, hl with | [_, _], _ => rfl,
    F_Order__ne__ := funD_fun F12,
    b_Order__ne__ := FunD.bindsN F12 fun _ _ _ _ _ _ us hl => match us, hl with | [_, _], _ => rfl,
    F_Order_size := funD_fun F13,
    b_Order_size := FunD.bindsN F13 fun _ _ _ _ _ _ us hl => match us, hl with | [_], _ => rfl,
    g_things_in := He.glo_ok X G (c.ck 7 (f := cFa (.glo "things_in")) rfl),
    F_things_in := funD_fun F14,
    b_things_in := FunD.bindsN F14 fun _ _ _ _ _ _ us hl => match us, hl with | [_], _ => rfl,
    g_next_above := He.glo_ok X G (c.ck 8 (f := cFa (.glo "_next_above")) rfl),
    F_next_above := funD_fun F15,
    b_next_above := FunD.bindsN F15 fun _ _ _ _ _ _ us hl => match us, hl with | [_, _], _ => rfl,
    F_Order_covers := funD_fun F16,
    b_Order_covers := FunD.bindsN F16 fun _ _ _ _ _ _ us hl => match us, hl with | [_], _ => rfl,
    g_check_thing := He.glo_ok X G (c.ck 9 (f := cFa (.glo "check_thing")) rfl),
    F_check_thing := funD_fun F17,
    b_check_thing := FunD.bindsN F17 fun _ _ _ _ _ _ us hl => match us, hl with | [_, _], _ => rfl,
    F_Order_at_or_below := funD_fun F18,
    b_Order_at_or_below := FunD.bindsN F18 fun _ _ _ _ _ _ us hl => match us, hl with | [_, _, _], _ => rfl,
    g_check_order := He.glo_ok X G (c.ck 10 (f := cFa (.glo "check_order")) rfl),
    F_check_order := funD_fun F19,
    b_check_order := FunD.bindsN F19 fun _ _ _ _ _ _ us hl => match us, hl with | [_], _ => rfl,
    g_is_place_pair := He.glo_ok X G (c.ck 11 (f := cFa (.glo "_is_place_pair")) rfl),
    F_is_place_pair := funD_fun F20,
    b_is_place_pair := FunD.bindsN F20 fun _ _ _ _ _ _ us hl => match us, hl with | [_, _], _ => rfl,
    F_Web__init__ := F21,
    em_Web__init___0 := dtB_ok (c.ck 12 (f := dtB ("Web", some "__init__") 0) rfl),
    F_Web__len__ := funD_fun F22,
    b_Web__len__ := FunD.bindsN F22 fun _ _ _ _ _ _ us hl => match us, hl with | [_], _ => rfl,
    F_Web__contains__ := funD_fun F23,
    b_Web__contains__ := FunD.bindsN F23 fun _ _ _ _ _ _ us hl => match us, hl with | [_, _], _ => rfl,
    F_Web_places := funD_fun F24,
    b_Web_places := FunD.bindsN F24 fun _ _ _ _ _ _ us hl => match us, hl with | [_], _ => rfl,
    F_Web_arrows := funD_fun F25,
    b_Web_arrows := FunD.bindsN F25 fun _ _ _ _ _ _ us hl => match us, hl with | [_], _ => rfl,
    g_joins := He.glo_ok X G (c.ck 13 (f := cFa (.glo "joins")) rfl),
    F_joins := funD_fun F26,
    b_joins := FunD.bindsN F26 fun _ _ _ _ _ _ us hl => match us, hl with | [_, _, _], _ => rfl,
    g_rule_arrows := He.glo_ok X G (c.ck 14 (f := cFa (.glo "_rule_arrows")) rfl),
    F_rule_arrows := funD_fun F27,
    b_rule_arrows := FunD.bindsN F27 fun _ _ _ _ _ _ us hl => match us, hl with | [_], _ => rfl,
    g_order_web := He.glo_ok X G (c.ck 15 (f := cFa (.glo "order_web")) rfl),
    F_order_web := funD_fun F28,
    b_order_web := FunD.bindsN F28 fun _ _ _ _ _ _ us hl => match us, hl with | [_], _ => rfl,
    g_read_order := He.glo_ok X G (c.ck 16 (f := cFa (.glo "_read_order")) rfl),
    F_read_order := funD_fun F29,
    b_read_order := FunD.bindsN F29 fun _ _ _ _ _ _ us hl => match us, hl with | [_], _ => rfl,
    g_is_order_web := He.glo_ok X G (c.ck 17 (f := cFa (.glo "is_order_web")) rfl),
    F_is_order_web := funD_fun F30,
    b_is_order_web := FunD.bindsN F30 fun _ _ _ _ _ _ us hl => match us, hl with | [_], _ => rfl,
    g_order_of_web := He.glo_ok X G (c.ck 18 (f := cFa (.glo "order_of_web")) rfl),
    F_order_of_web := funD_fun F31,
    b_order_of_web := FunD.bindsN F31 fun _ _ _ _ _ _ us hl => match us, hl with | [_], _ => rfl,
    g_law_mix := He.glo_ok X G (c.ck 19 (f := cFa (.glo "_law_mix")) rfl),
    F_law_mix := funD_fun F32,
    b_law_mix := FunD.bindsN F32 fun _ _ _ _ _ _ us hl => match us, hl with | [_, _], _ => rfl,
    g_law_store := He.glo_ok X G (c.ck 20 (f := cFa (.glo "_law_store")) rfl),
    F_law_store := funD_fun F33,
    b_law_store := FunD.bindsN F33 fun _ _ _ _ _ _ us hl => match us, hl with | [_], _ => rfl,
    g_law_take := He.glo_ok X G (c.ck 21 (f := cFa (.glo "_law_take")) rfl),
    F_law_take := funD_fun F34,
    b_law_take := FunD.bindsN F34 fun _ _ _ _ _ _ us hl => match us, hl with | [_, _], _ => rfl,
    g_law_between := He.glo_ok X G (c.ck 22 (f := cFa (.glo "_law_between")) rfl),
    F_law_between := funD_fun F35,
    b_law_between := FunD.bindsN F35 fun _ _ _ _ _ _ us hl => match us, hl with | [_, _, _], _ => rfl,
    g_law_edge := He.glo_ok X G (c.ck 23 (f := cFa (.glo "_law_edge")) rfl),
    F_law_edge := funD_fun F36,
    b_law_edge := FunD.bindsN F36 fun _ _ _ _ _ _ us hl => match us, hl with | [_, _, _], _ => rfl,
    g_law_pick := He.glo_ok X G (c.ck 24 (f := cFa (.glo "_law_pick")) rfl),
    F_law_pick := funD_fun F37,
    b_law_pick := FunD.bindsN F37 fun _ _ _ _ _ _ us hl => match us, hl with | [_, _], _ => rfl,
    g_law_shuffled := He.glo_ok X G (c.ck 25 (f := cFa (.glo "_law_shuffled")) rfl),
    F_law_shuffled := funD_fun F38,
    b_law_shuffled := FunD.bindsN F38 fun _ _ _ _ _ _ us hl => match us, hl with | [_, _], _ => rfl,
    g_law_form := He.glo_ok X G (c.ck 26 (f := cFa (.glo "_law_form")) rfl),
    F_law_form := funD_fun F39,
    b_law_form := FunD.bindsN F39 fun _ _ _ _ _ _ us hl => match us, hl with | [_, _], _ => rfl,
    g_law_odd := He.glo_ok X G (c.ck 27 (f := cFa (.glo "_law_odd")) rfl),
    F_law_odd := funD_fun F40,
    b_law_odd := FunD.bindsN F40 fun _ _ _ _ _ _ us hl => match us, hl with | [_], _ => rfl,
    g_law_far := He.glo_ok X G (c.ck 28 (f := cFa (.glo "_law_far")) rfl),
    F_law_far := funD_fun F41,
    b_law_far := FunD.bindsN F41 fun _ _ _ _ _ _ us hl => match us, hl with | [_], _ => rfl,
    g_law_any := He.glo_ok X G (c.ck 29 (f := cFa (.glo "_law_any")) rfl),
    F_law_any := funD_fun F42,
    b_law_any := FunD.bindsN F42 fun _ _ _ _ _ _ us hl => match us, hl with | [_], _ => rfl,
    g_law_named_arrows := He.glo_ok X G (c.ck 30 (f := cFa (.glo "_law_named_arrows")) rfl),
    F_law_named_arrows := funD_fun F43,
    b_law_named_arrows := FunD.bindsN F43 fun _ _ _ _ _ _ us hl => match us, hl with | [_, _], _ => rfl,
    g_law_web := He.glo_ok X G (c.ck 31 (f := cFa (.glo "_law_web")) rfl),
    F_law_web := funD_fun F44,
    b_law_web := FunD.bindsN F44 fun _ _ _ _ _ _ us hl => match us, hl with | [_, _], _ => rfl,
    g_law_pair_forms := He.glo_ok X G (c.ck 32 (f := cFa (.glo "_law_pair_forms")) rfl),
    F_law_pair_forms := funD_fun F45,
    b_law_pair_forms := FunD.bindsN F45 fun _ _ _ _ _ _ us hl => match us, hl with | [_, _], _ => rfl,
    g_law_order := He.glo_ok X G (c.ck 33 (f := cFa (.glo "_law_order")) rfl),
    F_law_order := funD_fun F46,
    b_law_order := FunD.bindsN F46 fun _ _ _ _ _ _ us hl => match us, hl with | [_, _], _ => rfl,
    g_law_below := He.glo_ok X G (c.ck 34 (f := cFa (.glo "_law_below")) rfl),
    F_law_below := funD_fun F47,
    b_law_below := FunD.bindsN F47 fun _ _ _ _ _ _ us hl => match us, hl with | [_, _], _ => rfl,
    g_law_covers := He.glo_ok X G (c.ck 35 (f := cFa (.glo "_law_covers")) rfl),
    F_law_covers := funD_fun F48,
    b_law_covers := FunD.bindsN F48 fun _ _ _ _ _ _ us hl => match us, hl with | [_], _ => rfl,
    g_law_is_integer := He.glo_ok X G (c.ck 36 (f := cFa (.glo "_law_is_integer")) rfl),
    F_law_is_integer := funD_fun F49,
    b_law_is_integer := FunD.bindsN F49 fun _ _ _ _ _ _ us hl => match us, hl with | [_], _ => rfl,
    g_law_same := He.glo_ok X G (c.ck 37 (f := cFa (.glo "_law_same")) rfl),
    F_law_same := funD_fun F50,
    b_law_same := FunD.bindsN F50 fun _ _ _ _ _ _ us hl => match us, hl with | [_, _], _ => rfl,
    g_law_order_arrows := He.glo_ok X G (c.ck 38 (f := cFa (.glo "_law_order_arrows")) rfl),
    F_law_order_arrows := funD_fun F51,
    b_law_order_arrows := FunD.bindsN F51 fun _ _ _ _ _ _ us hl => match us, hl with | [_], _ => rfl,
    g_law_table_of := He.glo_ok X G (c.ck 39 (f := cFa (.glo "_law_table_of")) rfl),
    F_law_table_of := funD_fun F52,
    b_law_table_of := FunD.bindsN F52 fun _ _ _ _ _ _ us hl => match us, hl with | [_, _], _ => rfl,
    g_law_toggled := He.glo_ok X G (c.ck 40 (f := cFa (.glo "_law_toggled")) rfl),
    F_law_toggled := funD_fun F53,
    b_law_toggled := FunD.bindsN F53 fun _ _ _ _ _ _ us hl => match us, hl with | [_, _], _ => rfl,
    g_law_changed := He.glo_ok X G (c.ck 41 (f := cFa (.glo "_law_changed")) rfl),
    F_law_changed := funD_fun F54,
    b_law_changed := FunD.bindsN F54 fun _ _ _ _ _ _ us hl => match us, hl with | [_, _, _], _ => rfl,
    g_law_ask_web := He.glo_ok X G (c.ck 42 (f := cFa (.glo "_law_ask_web")) rfl),
    F_law_ask_web := funD_fun F55,
    b_law_ask_web := FunD.bindsN F55 fun _ _ _ _ _ _ us hl => match us, hl with | [_], _ => rfl,
    g_law_ask_order := He.glo_ok X G (c.ck 43 (f := cFa (.glo "_law_ask_order")) rfl),
    F_law_ask_order := funD_fun F56,
    b_law_ask_order := FunD.bindsN F56 fun _ _ _ _ _ _ us hl => match us, hl with | [_], _ => rfl,
    g_law_is_order := He.glo_ok X G (c.ck 44 (f := cFa (.glo "_law_is_order")) rfl),
    F_law_is_order := funD_fun F57,
    b_law_is_order := FunD.bindsN F57 fun _ _ _ _ _ _ us hl => match us, hl with | [_, _], _ => rfl,
    g_law_is_web := He.glo_ok X G (c.ck 45 (f := cFa (.glo "_law_is_web")) rfl),
    F_law_is_web := funD_fun F58,
    b_law_is_web := FunD.bindsN F58 fun _ _ _ _ _ _ us hl => match us, hl with | [_, _, _], _ => rfl,
    g_law_answers := He.glo_ok X G (c.ck 46 (f := cFa (.glo "_law_answers")) rfl),
    F_law_answers := funD_fun F59,
    b_law_answers := FunD.bindsN F59 fun _ _ _ _ _ _ us hl => match us, hl with | [_, _, _, _, _], _ => rfl,
    g_law_odd_refused := He.glo_ok X G (c.ck 47 (f := cFa (.glo "_law_odd_refused")) rfl),
    F_law_odd_refused := funD_fun F60,
    b_law_odd_refused := FunD.bindsN F60 fun _ _ _ _ _ _ us hl => match us, hl with | [_, _, _], _ => rfl,
    g_law := He.glo_ok X G (c.ck 48 (f := cFa (.glo "law")) rfl),
    F_law := funD_fun F61,
    b_law := FunD.bindsN F61 fun _ _ _ _ _ _ us hl => match us, hl with | [_], _ => rfl,
    c_MOST_ARROWS := He.int_ok X G (c.ck 49 (f := cFa (.int "MOST_ARROWS" 2000)) rfl),
    c_MOST_PLACES := He.int_ok X G (c.ck 50 (f := cFa (.int "MOST_PLACES" 2000)) rfl),
    c_MOST_THINGS := He.int_ok X G (c.ck 51 (f := cFa (.int "MOST_THINGS" 200)) rfl),
    g_Order := He.glo_ok X G (c.ck 52 (f := cFa (.glo "Order")) rfl),
    g_Web := He.glo_ok X G (c.ck 53 (f := cFa (.glo "Web")) rfl),
    mk_Order := He.mkr_ok (c.ck 54 (f := cFa (.mkr "Order")) rfl),
    is_Order := insK_ok (c.ck 55 (f := cIns "Order") rfl),
    nk_Order := noK_ok (c.ck 56 (f := cNoK "Order") rfl),
    mk_Web := He.mkr_ok (c.ck 57 (f := cFa (.mkr "Web")) rfl),
    is_Web := insK_ok (c.ck 58 (f := cIns "Web") rfl),
    nk_Web := noK_ok (c.ck 59 (f := cNoK "Web") rfl),
    m_bool := He.free_ok X G (c.ck 60 (f := cFa (.free "bool")) rfl),
    m_dict := He.free_ok X G (c.ck 61 (f := cFa (.free "dict")) rfl),
    m_enumerate := He.free_ok X G (c.ck 62 (f := cFa (.free "enumerate")) rfl),
    m_int := He.free_ok X G (c.ck 63 (f := cFa (.free "int")) rfl),
    m_isinstance := He.free_ok X G (c.ck 64 (f := cFa (.free "isinstance")) rfl),
    m_len := He.free_ok X G (c.ck 65 (f := cFa (.free "len")) rfl),
    m_list := He.free_ok X G (c.ck 66 (f := cFa (.free "list")) rfl),
    m_max := He.free_ok X G (c.ck 67 (f := cFa (.free "max")) rfl),
    m_min := He.free_ok X G (c.ck 68 (f := cFa (.free "min")) rfl),
    m_range := He.free_ok X G (c.ck 69 (f := cFa (.free "range")) rfl),
    m_sorted := He.free_ok X G (c.ck 70 (f := cFa (.free "sorted")) rfl),
    m_str := He.free_ok X G (c.ck 71 (f := cFa (.free "str")) rfl),
    m_tuple := He.free_ok X G (c.ck 72 (f := cFa (.free "tuple")) rfl),
    na_Order__reach := He.noat_ok (c.ck 73 (f := cFa (.noat "Order" "_reach")) rfl),
    na_Web__arrows := He.noat_ok (c.ck 74 (f := cFa (.noat "Web" "_arrows")) rfl),
    na_Web__ins := He.noat_ok (c.ck 75 (f := cFa (.noat "Web" "_ins")) rfl),
    na_Web__known := He.noat_ok (c.ck 76 (f := cFa (.noat "Web" "_known")) rfl),
    na_Web__outs := He.noat_ok (c.ck 77 (f := cFa (.noat "Web" "_outs")) rfl),
    pr_Order_covers := prop_ok (c.ck 78 (f := cProp "Order" "covers") rfl),
    pr_Order_size := prop_ok (c.ck 79 (f := cProp "Order" "size") rfl),
    pr_Web_arrows := prop_ok (c.ck 80 (f := cProp "Web" "arrows") rfl),
    pr_Web_places := prop_ok (c.ck 81 (f := cProp "Web" "places") rfl),
    mt_Order__eq__ := He.meth_ok (c.ck 82 (f := cFa (.meth "Order" "__eq__")) rfl),
    mt_Order__len__ := He.meth_ok (c.ck 83 (f := cFa (.meth "Order" "__len__")) rfl),
    mt_Order__ne__ := He.meth_ok (c.ck 84 (f := cFa (.meth "Order" "__ne__")) rfl),
    mt_Order_at_or_below := He.meth_ok (c.ck 85 (f := cFa (.meth "Order" "at_or_below")) rfl),
    mt_Web__contains__ := He.meth_ok (c.ck 86 (f := cFa (.meth "Web" "__contains__")) rfl),
    mt_Web__len__ := He.meth_ok (c.ck 87 (f := cFa (.meth "Web" "__len__")) rfl),
    g_BadNumber := He.glo_ok X G (c.ck 88 (f := cFa (.glo "BadNumber")) rfl),
    k_BadNumber := He.keep_ok (c.ck 89 (f := cFa (.keep "BadNumber")) rfl),
    e_BadNumber := exCB_ok (c.ck 90 (f := cExC "BadNumber") rfl),
    ty_BadNumber := of_decide_eq_true (c.ck 91 (f := cTy "BadNumber") rfl),
    kv_BadNumber := of_decide_eq_true (c.ck 92 (f := cKv "BadNumber") rfl),
    n_BadNumber := (c.ck 93 (f := cExc "BadNumber") rfl),
    g_BadOrder := He.glo_ok X G (c.ck 94 (f := cFa (.glo "BadOrder")) rfl),
    k_BadOrder := He.keep_ok (c.ck 95 (f := cFa (.keep "BadOrder")) rfl),
    e_BadOrder := exCB_ok (c.ck 96 (f := cExC "BadOrder") rfl),
    ty_BadOrder := of_decide_eq_true (c.ck 97 (f := cTy "BadOrder") rfl),
    kv_BadOrder := of_decide_eq_true (c.ck 98 (f := cKv "BadOrder") rfl),
    o_BadOrder := oexB_ok (c.ck 99 (f := cOex "BadOrder") rfl),
    i_BadOrder := (ini_ok (c.ck 100 (f := cInit "BadOrder") rfl)).1,
    ti_BadOrder := (ini_ok (c.ck 100 (f := cInit "BadOrder") rfl)).2,
    nf_BadOrder_bad_at := He.noat_ok (c.ck 101 (f := cFa (.noat "BadOrder" "bad_at")) rfl),
    g_BadWeb := He.glo_ok X G (c.ck 102 (f := cFa (.glo "BadWeb")) rfl),
    k_BadWeb := He.keep_ok (c.ck 103 (f := cFa (.keep "BadWeb")) rfl),
    e_BadWeb := exCB_ok (c.ck 104 (f := cExC "BadWeb") rfl),
    ty_BadWeb := of_decide_eq_true (c.ck 105 (f := cTy "BadWeb") rfl),
    kv_BadWeb := of_decide_eq_true (c.ck 106 (f := cKv "BadWeb") rfl),
    o_BadWeb := oexB_ok (c.ck 107 (f := cOex "BadWeb") rfl),
    i_BadWeb := (ini_ok (c.ck 108 (f := cInit "BadWeb") rfl)).1,
    ti_BadWeb := (ini_ok (c.ck 108 (f := cInit "BadWeb") rfl)).2,
    nf_BadWeb_bad_at := He.noat_ok (c.ck 109 (f := cFa (.noat "BadWeb" "bad_at")) rfl),
    g_HueError := He.glo_ok X G (c.ck 110 (f := cFa (.glo "HueError")) rfl),
    k_HueError := He.keep_ok (c.ck 111 (f := cFa (.keep "HueError")) rfl),
    e_HueError := exCB_ok (c.ck 112 (f := cExC "HueError") rfl),
    ty_HueError := of_decide_eq_true (c.ck 113 (f := cTy "HueError") rfl),
    kv_HueError := of_decide_eq_true (c.ck 114 (f := cKv "HueError") rfl),
    n_HueError := (c.ck 115 (f := cExc "HueError") rfl),
    g_TooMany := He.glo_ok X G (c.ck 116 (f := cFa (.glo "TooMany")) rfl),
    k_TooMany := He.keep_ok (c.ck 117 (f := cFa (.keep "TooMany")) rfl),
    e_TooMany := exCB_ok (c.ck 118 (f := cExC "TooMany") rfl),
    ty_TooMany := of_decide_eq_true (c.ck 119 (f := cTy "TooMany") rfl),
    kv_TooMany := of_decide_eq_true (c.ck 120 (f := cKv "TooMany") rfl),
    o_TooMany := oexB_ok (c.ck 121 (f := cOex "TooMany") rfl),
    i_TooMany := (ini_ok (c.ck 122 (f := cInit "TooMany") rfl)).1,
    ti_TooMany := (ini_ok (c.ck 122 (f := cInit "TooMany") rfl)).2,
    nf_TooMany_most := He.noat_ok (c.ck 123 (f := cFa (.noat "TooMany" "most")) rfl),
    kit_Order_Web := of_decide_eq_true (c.ck 124 (f := cKit "Order" "Web" false) rfl),
    kit_Web_Order := of_decide_eq_true (c.ck 125 (f := cKit "Web" "Order" false) rfl),
    bm_0 := FunD.binds1 F21 3 1 (List.cons_ne_nil _ _) rfl fun _ _ _ _ _ _ _ us its h1 h2 => match us, its, h1, h2 with | [_, _, _], [_], _, _ => ⟨_, rfl, rfl⟩,
    bm_1 := FunD.binds1 F9 3 1 (List.cons_ne_nil _ _) rfl fun _ _ _ _ _ _ _ us its h1 h2 => match us, its, h1, h2 with | [_, _, _], [_], _, _ => ⟨_, rfl, rfl⟩,
    kb_0 := kbN (funD_fun (st := s_is_order_web) (x := "is_order_web") (qual := "is_order_web") F30) (fun r1 r2 => .cons (vals_getD 0 r2) (.nil)) (fun _ _ _ _ _ _ us ws h1 h2 => match us, ws, h1, h2 with | [], [_], _, _ => rfl),
    kb_1 := kbN (funD_fun (st := s_order_of_web) (x := "order_of_web") (qual := "order_of_web") F31) (fun r1 r2 => .cons (vals_getD 0 r2) (.nil)) (fun _ _ _ _ _ _ us ws h1 h2 => match us, ws, h1, h2 with | [], [_], _, _ => rfl),
    exm_BadNumber_BadNumber := He.exm_ok (c.ck 126 (f := cFa (.exm "BadNumber" "BadNumber" true)) rfl),
    kit_BadNumber_BadNumber := of_decide_eq_true (c.ck 127 (f := cKit "BadNumber" "BadNumber" true) rfl),
    exm_BadNumber_BadOrder := He.exm_ok (c.ck 128 (f := cFa (.exm "BadNumber" "BadOrder" false)) rfl),
    kit_BadNumber_BadOrder := of_decide_eq_true (c.ck 129 (f := cKit "BadNumber" "BadOrder" false) rfl),
    exm_BadNumber_BadWeb := He.exm_ok (c.ck 130 (f := cFa (.exm "BadNumber" "BadWeb" false)) rfl),
    kit_BadNumber_BadWeb := of_decide_eq_true (c.ck 131 (f := cKit "BadNumber" "BadWeb" false) rfl),
    exm_BadNumber_HueError := He.exm_ok (c.ck 132 (f := cFa (.exm "BadNumber" "HueError" true)) rfl),
    kit_BadNumber_HueError := of_decide_eq_true (c.ck 133 (f := cKit "BadNumber" "HueError" true) rfl),
    exm_BadNumber_TooMany := He.exm_ok (c.ck 134 (f := cFa (.exm "BadNumber" "TooMany" false)) rfl),
    kit_BadNumber_TooMany := of_decide_eq_true (c.ck 135 (f := cKit "BadNumber" "TooMany" false) rfl),
    exm_BadOrder_BadNumber := He.exm_ok (c.ck 136 (f := cFa (.exm "BadOrder" "BadNumber" false)) rfl),
    kit_BadOrder_BadNumber := of_decide_eq_true (c.ck 137 (f := cKit "BadOrder" "BadNumber" false) rfl),
    exm_BadOrder_BadOrder := He.exm_ok (c.ck 138 (f := cFa (.exm "BadOrder" "BadOrder" true)) rfl),
    kit_BadOrder_BadOrder := of_decide_eq_true (c.ck 139 (f := cKit "BadOrder" "BadOrder" true) rfl),
    exm_BadOrder_BadWeb := He.exm_ok (c.ck 140 (f := cFa (.exm "BadOrder" "BadWeb" false)) rfl),
    kit_BadOrder_BadWeb := of_decide_eq_true (c.ck 141 (f := cKit "BadOrder" "BadWeb" false) rfl),
    exm_BadOrder_HueError := He.exm_ok (c.ck 142 (f := cFa (.exm "BadOrder" "HueError" true)) rfl),
    kit_BadOrder_HueError := of_decide_eq_true (c.ck 143 (f := cKit "BadOrder" "HueError" true) rfl),
    exm_BadOrder_TooMany := He.exm_ok (c.ck 144 (f := cFa (.exm "BadOrder" "TooMany" false)) rfl),
    kit_BadOrder_TooMany := of_decide_eq_true (c.ck 145 (f := cKit "BadOrder" "TooMany" false) rfl),
    exm_BadWeb_BadNumber := He.exm_ok (c.ck 146 (f := cFa (.exm "BadWeb" "BadNumber" false)) rfl),
    kit_BadWeb_BadNumber := of_decide_eq_true (c.ck 147 (f := cKit "BadWeb" "BadNumber" false) rfl),
    exm_BadWeb_BadOrder := He.exm_ok (c.ck 148 (f := cFa (.exm "BadWeb" "BadOrder" false)) rfl),
    kit_BadWeb_BadOrder := of_decide_eq_true (c.ck 149 (f := cKit "BadWeb" "BadOrder" false) rfl),
    exm_BadWeb_BadWeb := He.exm_ok (c.ck 150 (f := cFa (.exm "BadWeb" "BadWeb" true)) rfl),
    kit_BadWeb_BadWeb := of_decide_eq_true (c.ck 151 (f := cKit "BadWeb" "BadWeb" true) rfl),
    exm_BadWeb_HueError := He.exm_ok (c.ck 152 (f := cFa (.exm "BadWeb" "HueError" true)) rfl),
    kit_BadWeb_HueError := of_decide_eq_true (c.ck 153 (f := cKit "BadWeb" "HueError" true) rfl),
    exm_BadWeb_TooMany := He.exm_ok (c.ck 154 (f := cFa (.exm "BadWeb" "TooMany" false)) rfl),
    kit_BadWeb_TooMany := of_decide_eq_true (c.ck 155 (f := cKit "BadWeb" "TooMany" false) rfl),
    exm_HueError_BadNumber := He.exm_ok (c.ck 156 (f := cFa (.exm "HueError" "BadNumber" false)) rfl),
    kit_HueError_BadNumber := of_decide_eq_true (c.ck 157 (f := cKit "HueError" "BadNumber" false) rfl),
    exm_HueError_BadOrder := He.exm_ok (c.ck 158 (f := cFa (.exm "HueError" "BadOrder" false)) rfl),
    kit_HueError_BadOrder := of_decide_eq_true (c.ck 159 (f := cKit "HueError" "BadOrder" false) rfl),
    exm_HueError_BadWeb := He.exm_ok (c.ck 160 (f := cFa (.exm "HueError" "BadWeb" false)) rfl),
    kit_HueError_BadWeb := of_decide_eq_true (c.ck 161 (f := cKit "HueError" "BadWeb" false) rfl),
    exm_HueError_HueError := He.exm_ok (c.ck 162 (f := cFa (.exm "HueError" "HueError" true)) rfl),
    kit_HueError_HueError := of_decide_eq_true (c.ck 163 (f := cKit "HueError" "HueError" true) rfl),
    exm_HueError_TooMany := He.exm_ok (c.ck 164 (f := cFa (.exm "HueError" "TooMany" false)) rfl),
    kit_HueError_TooMany := of_decide_eq_true (c.ck 165 (f := cKit "HueError" "TooMany" false) rfl),
    exm_TooMany_BadNumber := He.exm_ok (c.ck 166 (f := cFa (.exm "TooMany" "BadNumber" false)) rfl),
    kit_TooMany_BadNumber := of_decide_eq_true (c.ck 167 (f := cKit "TooMany" "BadNumber" false) rfl),
    exm_TooMany_BadOrder := He.exm_ok (c.ck 168 (f := cFa (.exm "TooMany" "BadOrder" false)) rfl),
    kit_TooMany_BadOrder := of_decide_eq_true (c.ck 169 (f := cKit "TooMany" "BadOrder" false) rfl),
    exm_TooMany_BadWeb := He.exm_ok (c.ck 170 (f := cFa (.exm "TooMany" "BadWeb" false)) rfl),
    kit_TooMany_BadWeb := of_decide_eq_true (c.ck 171 (f := cKit "TooMany" "BadWeb" false) rfl),
    exm_TooMany_HueError := He.exm_ok (c.ck 172 (f := cFa (.exm "TooMany" "HueError" true)) rfl),
    kit_TooMany_HueError := of_decide_eq_true (c.ck 173 (f := cKit "TooMany" "HueError" true) rfl),
    exm_TooMany_TooMany := He.exm_ok (c.ck 174 (f := cFa (.exm "TooMany" "TooMany" true)) rfl),
    kit_TooMany_TooMany := of_decide_eq_true (c.ck 175 (f := cKit "TooMany" "TooMany" true) rfl) }
  have e := hfa.symm.trans T.g_law
  cases e
  exact ⟨fd61, fun s v => FunD.bindsA (ps := ["script"]) F61 (fun _ _ _ _ _ _ us hl => match us, hl with | [_], _ => rfl) s [v] rfl, fun base _ _ => ok_law T⟩
end Lk
open PySem PySem.W PySem.Calls PyProof.Rows
theorem PySem.Challenge.cw_huewalks_k38_order_of_web_holds : PySem.Challenge.rw_huewalks_k38_order_of_web.Holds := by
  w_on; o_law
  refine HandSHeadRun.head_any (r := (PySem.W.OpenLaw.row PySem.Challenge.rw_huewalks_k38_order_of_web)) (q := view (PySem.W.OpenLaw.row PySem.Challenge.rw_huewalks_k38_order_of_web).prog [65]) (H := Lk.hk) (ob := Lk.ob) (M := 16000) (loose := Lk.loose) (d := HandSHeadRun.topDef (PySem.W.OpenLaw.row PySem.Challenge.rw_huewalks_k38_order_of_web).prog 65) (kwd := []) Lk.ob_eq
    (by kernel_rfl) (fun s => by kernel_rfl) Lk.run (by kernel_rfl) (by kernel_rfl) (by kernel_rfl) (by rfl) (by first | assumption | decide +kernel) (by decide +kernel) ⟨rfl, rfl, rfl, rfl, rfl, by decide +kernel⟩ ?hw ?hc
  case hw => w_witness2
  case hc =>
    refine L2.walk_ofE (l := PySem.Challenge.rw_huewalks_k38_order_of_web) (n := 63) (k := 77) (x := "script") (CX := L2.CX0) rfl (by decide) (by kernel_rfl) ⟨rfl, by decide, by decide⟩ ?F (fun _ _ _ _ z => z)
    intro w mg fa h Yh G hmg0
    obtain ⟨K, KX, c⟩ := Yh
    have hmg : mg ("law" : PySem.Str) = some (.ref fa) := by
      have e : (HandSHeadRun.topDef (PySem.W.OpenLaw.row PySem.Challenge.rw_huewalks_k38_order_of_web).prog 65).name = ("law" : PySem.Str) := by kernel_rfl
      rw [← e]
      exact hmg0
    obtain ⟨fd, hb, hF⟩ := Lk.facts (P := PySem.Challenge.rw_huewalks_k38_order_of_web.prog) (w := w) KX G hmg c
    exact ⟨K, fd, Lk.sp_law K, KX, hb, fun H a ns hl _ hS => ⟨a, ns, rfl, hS, hl, fun _ => rfl⟩, hF⟩
#print axioms PySem.Challenge.cw_huewalks_k38_order_of_web_holds
