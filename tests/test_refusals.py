"""Refusals of layings by cases: points 3 to 8 and 26, and the last functions of huewalks.lay."""

import unittest
from itertools import product

from huewalks.box import box
from huewalks.errors import BadOrder, BadWeb, TooMany
from huewalks.lay import find_laying, is_refusal, refusal
from huewalks.orders import Order, chain_order, loose_order
from huewalks.webs import Web, path_web, ring_web, row_web, two_way_web
from helpers import (
    HUGE, NOT_INTEGERS, NOT_ORDERS, NOT_SEQUENCES, NOT_WEBS, ODD_VALUES, ProgramTest, all_small_orders,
    all_small_webs, as_lists, is_tuples_throughout, shown, spoiled,
)

SMALL_WEBS = all_small_webs(2) + all_small_webs(3)[20::29] + [row_web(4), ring_web(4)]
SMALL_ORDERS = all_small_orders(3) + [box([2, 2])]

LOOP = Web(1, [(0, 0)])


def loop_tree(splits, things=2):
    """A tree for the web of loop_web, with so many splits on its longest path, the last of them at the loop."""
    tree = ("split", 0, (("clash", 0, 0),) * things)
    for place in range(1, splits):
        tree = ("split", place, (tree,) + (("split", 0, (("clash", 0, 0),) * things),) * (things - 1))
    return tree


def loop_web(places):
    """A web with a loop at place 0 alone."""
    return Web(places, [(0, 0)])


def refuses_by_trial(web, order, tree, things):
    """True if the tree of tuples, of the right forms, is right for the partial laying."""
    if tree[0] == "clash":
        _, u, v = tree
        return (u, v) in web.arrows and u in things and v in things and order.at_or_below(things[v], things[u])
    _, place, trees = tree
    if place not in range(web.places) or place in things or len(trees) != order.size:
        return False
    return all(refuses_by_trial(web, order, below, {**things, place: thing}) for thing, below in enumerate(trees))


class RefusalTest(ProgramTest):

    def test_small_webs(self):
        for web in SMALL_WEBS:
            for order in SMALL_ORDERS:
                tree = refusal(web, order)
                self.assertIs(tree is None, find_laying(web, order) is not None)
                if tree is not None:
                    self.assertTrue(is_tuples_throughout(tree))
                    self.gives(True, is_refusal, web, order, tree)
                    self.gives(True, is_refusal, web, order, as_lists(tree))
                    self.assertTrue(refuses_by_trial(web, order, tree, {}))
                    self.gives(tree, refusal, order=order, web=web)

    def test_ordinary_answers(self):
        self.gives(("split", 0, (("clash", 0, 0),)), refusal, LOOP, loose_order(1))
        self.gives(None, refusal, row_web(3), chain_order(3))
        tree = refusal(row_web(3), chain_order(2))
        self.gives(True, is_refusal, row_web(3), chain_order(2), tree)
        self.gives(False, is_refusal, row_web(2), chain_order(2), tree)
        self.gives(False, is_refusal, row_web(3), loose_order(2), ("split", 0, (tree, tree)))

    def test_webs_without_places_and_orders_without_things(self):
        for order in (Order(0), Order(1), loose_order(200)):
            self.gives(None, refusal, Web(0), order)
            self.judges_not((("split", 0, ()), ("clash", 0, 0), (), []), is_refusal, Web(0), order)
        for web in (Web(1), LOOP, row_web(13)):
            tree = refusal(web, Order(0))
            self.assertEqual((tree[0], tree[2]), ("split", ()))
            self.gives(True, is_refusal, web, Order(0), tree)
        for place in range(5):
            self.gives(True, is_refusal, row_web(5), Order(0), ("split", place, []))
        self.gives(True, is_refusal, path_web(2000), Order(0), ("split", 1999, ()))
        self.gives(False, is_refusal, path_web(2000), Order(0), ("split", 2000, ()))

    def test_exactly_at_the_limits(self):
        web = Web(13, [(12, 12)])
        tree = refusal(web, chain_order(2))
        self.gives(True, is_refusal, web, chain_order(2), tree)
        self.gives(None, refusal, path_web(13), loose_order(2))
        self.gives(True, is_refusal, Web(2, [(0, 1), (1, 0)]), chain_order(100), refusal(
            Web(2, [(0, 1), (1, 0)]), chain_order(100)
        ))
        self.gives(True, is_refusal, ring_web(13), loose_order(2), refusal(ring_web(13), loose_order(2)))

    def test_one_beyond_the_limits(self):
        for web in (Web(14), Web(14, [(0, 0)]), path_web(2000)):
            for order in (Order(0), Order(1), chain_order(2), chain_order(200)):
                self.refused(TooMany(13), refusal, web, order)
        for web, order in (
            (Web(2), loose_order(101)), (Web(2, [(0, 0)]), loose_order(101)), (Web(5), loose_order(10)),
            (Web(13, [(0, 0)]), loose_order(3)), (row_web(9), chain_order(3)),
        ):
            self.refused(TooMany(10000), refusal, web, order)

    def test_wrong_arguments(self):
        for web in NOT_WEBS:
            self.refused(BadWeb(None), refusal, web, None)
            self.refused(BadWeb(None), is_refusal, web, None, None)
        for order in NOT_ORDERS:
            self.refused(BadOrder(None), refusal, Web(14), order)
            self.refused(BadOrder(None), is_refusal, Web(14), order, ("split", 0, ()))

    def test_equal_calls_with_others_in_between(self):
        def answers():
            return shown([refusal(row_web(3), chain_order(2)), refusal(ring_web(3), loose_order(2))])
        before = answers()
        for web in SMALL_WEBS[::7]:
            refusal(web, chain_order(2))
        self.assertEqual(answers(), before)


class IsRefusalTest(ProgramTest):

    def test_the_example(self):
        self.gives(True, is_refusal, LOOP, loose_order(1), ("split", 0, (("clash", 0, 0),)))
        self.gives(True, is_refusal, tree=["split", 0, [["clash", 0, 0]]], order=loose_order(1), web=LOOP)

    def test_all_trees_of_up_to_two_splits(self):
        leaves = [("clash", u, v) for u, v in product(range(-1, 3), repeat=2)]
        for web, order in ((Web(2, [(0, 1), (1, 1)]), Order(1)), (ring_web(2), Order(1)), (Web(2, [(0, 1)]), Order(1))):
            lower = leaves + [("split", place, (leaf,)) for place in range(-1, 3) for leaf in leaves]
            for tree in lower + [("split", place, (below,)) for place in range(-1, 3) for below in lower]:
                self.assertIs(is_refusal(web, order, tree), refuses_by_trial(web, order, tree, {}))

    def test_a_clash_needs_an_arrow_and_two_things(self):
        self.judges_not((("clash", 0, 0), ["clash", 0, 0]), is_refusal, LOOP, Order(1))
        web = Web(3, [(0, 1), (2, 2)])
        both = ("split", 0, (("split", 1, (("clash", 0, 1),)),))
        self.gives(True, is_refusal, web, Order(1), both)
        self.gives(True, is_refusal, web, Order(1), ("split", 1, (("split", 0, (("clash", 0, 1),)),)))
        for u, v in product(range(3), repeat=2):
            if (u, v) != (0, 1):
                self.gives(False, is_refusal, web, Order(1), ("split", 0, (("split", 1, (("clash", u, v),)),)))
        self.gives(False, is_refusal, web, Order(1), ("split", 0, (("clash", 0, 1),)))
        self.gives(False, is_refusal, web, Order(1), ("split", 1, (("clash", 0, 1),)))
        # An arrow that is kept is no clash.
        clash = ("clash", 0, 1)
        for order in (chain_order(2), loose_order(2)):
            self.gives(False, is_refusal, path_web(2), order, ("split", 0, (("split", 1, (clash, clash)),) * 2))

    def test_needless_splits(self):
        tree = ("split", 0, (("clash", 0, 0),))
        web = Web(3, [(0, 0)])
        self.gives(True, is_refusal, web, Order(1), ("split", 2, (("split", 1, (tree,)),)))
        self.gives(True, is_refusal, web, Order(1), ("split", 0, (("split", 2, (("clash", 0, 0),)),)))
        late = ("split", 0, (("split", 1, (("clash", 0, 0), ("clash", 0, 0))), ("clash", 0, 0)))
        self.gives(True, is_refusal, web, chain_order(2), late)
        self.gives(False, is_refusal, web, chain_order(2), ("split", 0, (("split", 1, (("clash", 0, 0),)), late[2][1])))

    def test_a_place_that_has_a_thing_is_not_split_again(self):
        leaf = ("clash", 0, 0)
        self.gives(False, is_refusal, LOOP, Order(1), ("split", 0, (("split", 0, (leaf,)),)))
        web = Web(2, [(0, 0)])
        self.gives(True, is_refusal, web, Order(1), ("split", 1, (("split", 0, (leaf,)),)))
        self.gives(False, is_refusal, web, Order(1), ("split", 1, (("split", 0, (("split", 1, (leaf,)),)),)))

    def test_exactly_13_and_14_splits(self):
        web = loop_web(20)
        for splits in range(1, 17):
            self.gives(splits <= 13, is_refusal, web, chain_order(2), loop_tree(splits))
            self.gives(splits <= 13, is_refusal, web, Order(1), loop_tree(splits, things=1))
            self.gives(splits <= 13, is_refusal, web, loose_order(2), as_lists(loop_tree(splits)))

    def test_a_wrong_tree_at_any_depth(self):
        web = loop_web(20)
        leaf = ("clash", 0, 0)
        for bad in (("clash", 0, 1), ("clash", 1, 1), ("clash", 1, 0), ("split", 19, (leaf,)), ("clash", 0), None, ()):
            for deep in range(1, 12):
                tree = ("split", 0, (leaf, bad))
                for place in range(1, deep):
                    tree = ("split", place, (("split", 0, (leaf, leaf)), tree))
                self.gives(False, is_refusal, web, chain_order(2), tree)

    def test_too_few_and_too_many_trees(self):
        leaf = ("clash", 0, 0)
        for many in range(6):
            self.gives(many == 3, is_refusal, LOOP, loose_order(3), ("split", 0, (leaf,) * many))
            self.gives(many == 3, is_refusal, LOOP, chain_order(3), ["split", 0, [leaf] * many])
        self.gives(True, is_refusal, LOOP, chain_order(200), ("split", 0, (leaf,) * 200))
        self.gives(False, is_refusal, LOOP, Order(0), ("split", 0, (leaf,)))

    def test_many_trees(self):
        # More than the 20,000 trees that a paper may have.
        web = Web(2, [(0, 0)])
        below = ["split", 0, [["clash", 0, 0]] * 150]
        self.assertIs(is_refusal(web, loose_order(150), ["split", 1, [below] * 150]), True)
        self.assertIs(is_refusal(web, loose_order(150), ["split", 1, [below] * 149 + [["clash", 0, 0]]]), False)
        tree = refusal(Web(13, [(12, 12)]), chain_order(2))
        self.assertIs(is_refusal(Web(13, [(12, 12)]), chain_order(2), tree), True)

    def test_values_of_every_kind(self):
        for web, order in ((LOOP, Order(1)), (row_web(4), loose_order(2)), (Web(0), Order(0)), (Web(0), Order(2))):
            self.judges_not(ODD_VALUES, is_refusal, web, order)
        tree = ("split", 0, (("split", 1, (("clash", 0, 1),)),))
        self.gives(True, is_refusal, two_way_web(2, [(0, 1)]), Order(1), tree)
        self.judges_not(spoiled(tree), is_refusal, two_way_web(2, [(0, 1)]), Order(1))
        self.judges_not(spoiled(as_lists(tree)), is_refusal, two_way_web(2, [(0, 1)]), Order(1))

    def test_exactly_the_members_that_are_named(self):
        clash = ("clash", 0, 0)
        for bad in NOT_SEQUENCES + (
            ("clash",), ("clash", 0), ("clash", 0, 0, 0), ["clash", 0, 0, ()], ("clash", (0, 0)), ("Clash", 0, 0),
            (0, 0, "clash"), ("clash", [0], 0), ("road", 0, (0, 0)), ("hue", (0, 0), (clash,)), (None, 0, 0),
            ((), 0, 0), (["clash"], 0, 0), (Web(1), 0, 0), ("cases", clash), {0: "clash", 1: 0, 2: 0},
        ):
            self.gives(False, is_refusal, LOOP, Order(1), ("split", 0, (bad,)))
        for bad in NOT_SEQUENCES + (clash, [clash, clash], ("split", 0, (clash,)), [[clash]], {0: clash}, [{}]):
            self.gives(False, is_refusal, LOOP, Order(1), ("split", 0, bad))
        for bad in (("split", 0), ("split", 0, (clash,), ()), ("split", (clash,), 0), ("Split", 0, (clash,))):
            self.gives(False, is_refusal, LOOP, Order(1), bad)
        for place in NOT_INTEGERS + (-1, 1, HUGE, -HUGE):
            self.gives(False, is_refusal, LOOP, Order(1), ("split", place, (clash,)))

    def test_a_web_with_a_laying_has_no_refusal(self):
        for web, order in ((path_web(2), loose_order(2)), (row_web(2), chain_order(2)), (Web(1), Order(1))):
            clashes = [("clash", u, v) for u, v in web] + [("clash", 0, 0)]
            trees = list(clashes)
            for place in range(web.places):
                for below in product(trees[:9], repeat=order.size):
                    tree = ("split", place, below)
                    trees.append(tree)
                    self.assertIs(is_refusal(web, order, tree), False)

    def test_a_later_change(self):
        trees = [["clash", 0, 0]]
        tree = ["split", 0, trees]
        self.gives(True, is_refusal, LOOP, Order(1), tree)
        trees.append(["clash", 0, 0])
        self.gives(False, is_refusal, LOOP, Order(1), tree)
        self.gives(True, is_refusal, LOOP, chain_order(2), tree)


if __name__ == "__main__":
    unittest.main()
