"""Hue refusals: points 3 to 8 and 27, and hue_refusal and is_hue_refusal of huewalks.cases."""

import unittest
from itertools import product

from huewalks.cases import hue_refusal, is_hue_refusal
from huewalks.errors import BadBounds, BadNumber, BadWeb, TooMany
from huewalks.roads import find_hueing
from huewalks.walks import all_walks
from huewalks.webs import Web, beside_web, path_web, ring_web, row_web, two_way_web
from helpers import (
    HUGE, NOT_INTEGERS, NOT_SEQUENCES, NOT_SPANS, NOT_WEBS, ODD_VALUES, WRONG_BOUNDS, ProgramTest, all_small_webs,
    as_lists, hub_web, is_tuples_throughout, shown, spoiled,
)

SMALL_WEBS = all_small_webs(2) + all_small_webs(3)[20::29] + [row_web(4), ring_web(3), path_web(4)]

SMALL_BOUNDS = ([1], [2], [3], [1, 1], [2, 1], [1, 3], [2, 2], [1, 1, 2])

LOOP = ring_web(1)

ONE_HUE = ("hue", (0, 0), (("road", 0, (0, 0)),))


def refuses_by_trial(web, span, bounds, tree, hues):
    """True if the tree of tuples, of the right forms, is right for the partial hueing."""
    if tree[0] == "road":
        _, hue, road = tree
        if hue not in range(len(bounds)) or len(road) != span - 1 + bounds[hue]:
            return False
        if not all((u, v) in web.arrows for u, v in zip(road, road[1:])):
            return False
        return all(hues.get(road[i:i + span]) == hue for i in range(bounds[hue]))
    _, walk, trees = tree
    if walk not in all_walks(web, span) or walk in hues or len(trees) != len(bounds):
        return False
    return all(refuses_by_trial(web, span, bounds, below, {**hues, walk: c}) for c, below in enumerate(trees))


def ring_tree(trees_on_path, ring, many=2):
    """A tree for a web with a loop at place 0 and a ring behind it, with so many trees of the form hue on a path."""
    leaves = [("road", hue, (0, 0)) for hue in range(many)]
    tree = ("hue", (0, 0), tuple(leaves))
    for i in range(trees_on_path - 1):
        walk = (1 + i, 1 + (i + 1) % ring)
        tree = ("hue", walk, (tree,) + (("hue", (0, 0), tuple(leaves)),) * (many - 1))
    return tree


class HueRefusalTest(ProgramTest):

    def test_small_webs(self):
        for web in SMALL_WEBS:
            for span, bounds in product((2, 3), SMALL_BOUNDS):
                walks = len(all_walks(web, span))
                if walks > 10 or len(bounds) ** walks > 1024:
                    continue
                tree = hue_refusal(web, span, bounds)
                self.assertIs(tree is None, find_hueing(web, span, bounds) is not None)
                if tree is not None:
                    self.assertTrue(is_tuples_throughout(tree))
                    self.assertTrue(refuses_by_trial(web, span, bounds, tree, {}))
                    self.gives(True, is_hue_refusal, web, span, bounds, tree)
                    self.gives(True, is_hue_refusal, web, span, tuple(bounds), as_lists(tree))

    def test_ordinary_answers(self):
        self.gives(ONE_HUE, hue_refusal, LOOP, 2, [1])
        self.gives(("hue", (0, 1, 2), (("road", 0, (0, 1, 2)),)), hue_refusal, path_web(3), 3, [1])
        self.gives(None, hue_refusal, row_web(4), 3, [2, 2])
        for web, span, bounds in ((row_web(4), 3, [2]), (row_web(5), 2, (2, 2)), (row_web(3), 2, [2])):
            tree = hue_refusal(bounds=bounds, span=span, web=web)
            self.gives(True, is_hue_refusal, tree=tree, bounds=bounds, span=span, web=web)

    def test_webs_without_walks(self):
        for web in (Web(0), Web(5), path_web(5)):
            self.gives(None, hue_refusal, web, 6, [1])
            self.gives(None, hue_refusal, web, 6, (200,) * 8)
            self.judges_not(ODD_VALUES + (ONE_HUE,), is_hue_refusal, web, 6, [1])

    def test_bounds_of_1_and_of_200_and_8_bounds(self):
        tree = hue_refusal(path_web(3), 2, [1] * 8)
        self.gives(True, is_hue_refusal, path_web(3), 2, [1] * 8, tree)
        tree = hue_refusal(LOOP, 2, [200] * 8)
        self.gives(True, is_hue_refusal, LOOP, 2, [200] * 8, tree)
        self.gives(("hue", (0,) * 6, (("road", 0, (0,) * 205),)), hue_refusal, LOOP, 6, [200])
        tree = hue_refusal(two_way_web(2, [(0, 1)]), 2, [200])
        self.gives(True, is_hue_refusal, two_way_web(2, [(0, 1)]), 2, [200], tree)

    def test_exactly_at_the_limits(self):
        for web, span, bounds in (
            (path_web(11), 2, [10]), (path_web(11), 2, [1, 1]), (path_web(15), 6, [10]), (path_web(6), 2, [1] * 4),
            (row_web(5), 2, [2, 2]), (Web(10, [(i, i) for i in range(10)]), 2, [200, 200]),
        ):
            tree = hue_refusal(web, span, bounds)
            self.assertIsNotNone(tree)
            self.assertIs(is_hue_refusal(web, span, bounds, tree), True)
        self.gives(None, hue_refusal, path_web(11), 2, [11])
        self.gives(None, hue_refusal, path_web(11), 2, [2, 2])

    def test_one_beyond_the_limits(self):
        for web, span in ((path_web(12), 2), (path_web(16), 6), (Web(11, [(i, i) for i in range(11)]), 4)):
            for bounds in ([1], [200] * 8):
                self.refused(TooMany(10), hue_refusal, web, span, bounds)
        self.refused(TooMany(1024), hue_refusal, path_web(7), 2, [1, 1, 1, 6])
        self.refused(TooMany(1024), hue_refusal, Web(4, [(i, i) for i in range(4)]), 2, [1] * 8)
        self.refused(TooMany(1024), hue_refusal, path_web(11), 2, [1, 1, 1])

    def test_wrong_arguments(self):
        for web in NOT_WEBS:
            self.refused(BadWeb(None), hue_refusal, web, 0, None)
            self.refused(BadWeb(None), is_hue_refusal, web, 0, None, None)
        for span in NOT_SPANS:
            self.refused(BadNumber(), hue_refusal, hub_web(69, 29), span, None)
            self.refused(BadNumber(), is_hue_refusal, hub_web(69, 29), span, None, None)
        for span in (3, 6):
            self.refused(TooMany(2000), hue_refusal, hub_web(69, 29), span, None)
            self.refused(TooMany(2000), is_hue_refusal, hub_web(69, 29), span, None, None)
        for bounds, bad_at in WRONG_BOUNDS:
            self.refused(BadBounds(bad_at), hue_refusal, path_web(12), 2, bounds)
            self.refused(BadBounds(bad_at), is_hue_refusal, path_web(12), 2, bounds, None)

    def test_equal_calls_with_others_in_between(self):
        def answers():
            return shown([hue_refusal(row_web(4), 3, [2]), hue_refusal(row_web(5), 2, [2, 2])])
        before = answers()
        for web in SMALL_WEBS[::7]:
            if len(web.arrows) < 6:
                hue_refusal(web, 2, [2, 2])
        self.assertEqual(answers(), before)


class IsHueRefusalTest(ProgramTest):

    def test_all_trees_of_up_to_two_walks(self):
        web = Web(2, [(0, 1), (1, 1)])
        walks = [(0, 1), (1, 1), (1, 0), (0, 0), (0,), (0, 1, 1), ()]
        roads = walks + [(1, 1, 1), (0, 1, 1, 1)]
        leaves = [("road", hue, road) for hue in range(-1, 2) for road in roads]
        for bounds in ([1], [2]):
            lower = leaves + [("hue", walk, (leaf,)) for walk in walks for leaf in leaves]
            for tree in lower + [("hue", walk, (below,)) for walk in walks for below in lower]:
                self.assertIs(is_hue_refusal(web, 2, bounds, tree), refuses_by_trial(web, 2, bounds, tree, {}))

    def test_a_road_has_exactly_as_many_steps_as_the_bound(self):
        for bound in (1, 2, 3, 200):
            for steps in (1, 2, 3, 4, 199, 200, 201):
                tree = ("hue", (0, 0), (("road", 0, (0,) * (steps + 1)),))
                self.gives(steps == bound, is_hue_refusal, LOOP, 2, [bound], tree)
        web = path_web(4)
        tree = ("hue", (0, 1), (("hue", (1, 2), (("hue", (2, 3), (("road", 0, (0, 1, 2, 3)),)),)),))
        self.gives(True, is_hue_refusal, web, 2, [3], tree)
        self.gives(False, is_hue_refusal, web, 2, [2], tree)
        self.gives(False, is_hue_refusal, web, 2, [4], tree)

    def test_all_windows_of_a_road_have_the_hue(self):
        web = path_web(3)

        def tree_of(*leaves):
            return ("hue", (0, 1), (("hue", (1, 2), leaves[:2]), ("hue", (1, 2), leaves[2:])))
        long = [("road", 0, (0, 1, 2)), ("road", 1, (1, 2)), ("road", 1, (0, 1)), ("road", 1, (0, 1))]
        self.gives(True, is_hue_refusal, web, 2, [2, 1], tree_of(*long))
        self.gives(True, is_hue_refusal, web, 2, [2, 1], tree_of(*long[:3], ("road", 1, (1, 2))))
        for i, leaf in ((0, ("road", 1, (0, 1))), (1, ("road", 0, (0, 1, 2))), (1, ("road", 1, (0, 1))),
                        (2, ("road", 0, (0, 1, 2))), (2, ("road", 1, (1, 2))), (3, ("road", 0, (0, 1, 2)))):
            spoilt = long[:i] + [leaf] + long[i + 1:]
            self.gives(False, is_hue_refusal, web, 2, [2, 1], tree_of(*spoilt))
        # A walk without a hue yet is no window of a road.
        self.gives(False, is_hue_refusal, web, 2, [2], ("hue", (0, 1), (("road", 0, (0, 1, 2)),)))
        self.gives(False, is_hue_refusal, web, 2, [1], ("road", 0, (0, 1)))

    def test_needless_trees(self):
        web = beside_web(LOOP, path_web(3))
        self.gives(True, is_hue_refusal, web, 2, [1], ("hue", (1, 2), (ONE_HUE,)))
        self.gives(True, is_hue_refusal, web, 2, [1], ("hue", (0, 0), (("hue", (2, 3), (ONE_HUE[2][0],)),)))
        self.gives(False, is_hue_refusal, web, 2, [1], ("hue", (0, 0), (ONE_HUE,)))
        self.gives(False, is_hue_refusal, web, 2, [1], ("hue", (1, 3), (ONE_HUE,)))
        self.gives(False, is_hue_refusal, web, 2, [1], ("hue", (1, 2, 3), (ONE_HUE,)))
        self.gives(False, is_hue_refusal, web, 2, [1], ("hue", (1,), (ONE_HUE,)))

    def test_exactly_10_and_11_trees_on_a_path(self):
        web = beside_web(LOOP, ring_web(30))
        for trees in range(1, 14):
            self.gives(trees <= 10, is_hue_refusal, web, 2, [1], ring_tree(trees, 30, many=1))
            self.gives(trees <= 10, is_hue_refusal, web, 2, [1, 1], ring_tree(trees, 30))
            self.gives(trees <= 10, is_hue_refusal, web, 2, (1, 1), as_lists(ring_tree(trees, 30)))

    def test_a_wrong_tree_at_any_depth(self):
        web = beside_web(LOOP, ring_web(30))
        right = ("hue", (0, 0), (("road", 0, (0, 0)), ("road", 1, (0, 0))))
        for bad in (("road", 0, (0, 0)), ("road", 1, (0, 0)), ("hue", (0, 0), right[2][:1]), None, (), ("road", 0)):
            for deep in range(1, 10):
                tree = ("hue", (1, 2), (right, bad))
                self.gives(True, is_hue_refusal, web, 2, [1, 1], ("hue", (1, 2), (right, right)))
                for i in range(1, deep):
                    tree = ("hue", (1 + i, 2 + i), (right, tree))
                self.gives(False, is_hue_refusal, web, 2, [1, 1], tree)

    def test_too_few_and_too_many_trees(self):
        for many in range(1, 9):
            leaves = tuple([("road", hue, (0, 0)) for hue in range(9)])
            for given in range(10):
                tree = ("hue", (0, 0), leaves[:given])
                self.gives(given == many, is_hue_refusal, LOOP, 2, [1] * many, tree)

    def test_more_walks_than_are_searched(self):
        web = beside_web(LOOP, row_web(60))
        self.gives(True, is_hue_refusal, web, 2, [1], ONE_HUE)
        self.refused(TooMany(10), hue_refusal, web, 2, [1])
        # The tower of these bounds has more than 200 things.
        leaves = tuple([("road", hue, (0,) * 201) for hue in range(8)])
        self.gives(True, is_hue_refusal, web, 2, [200] * 8, ("hue", (0, 0), leaves))

    def test_values_of_every_kind(self):
        for web, span, bounds in ((LOOP, 2, [1]), (row_web(4), 3, [2, 2]), (Web(0), 2, [1])):
            self.judges_not(ODD_VALUES, is_hue_refusal, web, span, bounds)
        tree = ("hue", (0, 1), (("hue", (1, 0), (("road", 0, (0, 1, 0)),)),))
        web = two_way_web(2, [(0, 1)])
        self.gives(True, is_hue_refusal, web, 2, [2], tree)
        self.judges_not(spoiled(tree), is_hue_refusal, web, 2, [2])
        self.judges_not(spoiled(as_lists(tree)), is_hue_refusal, web, 2, [2])

    def test_exactly_the_members_that_are_named(self):
        road = ("road", 0, (0, 0))
        self.gives(True, is_hue_refusal, LOOP, 2, [1], ["hue", [0, 0], [["road", 0, [0, 0]]]])
        for bad in NOT_SEQUENCES + (
            ("road",), ("road", 0), ("road", 0, (0, 0), ()), ["road", 0, 0, 0], ("Road", 0, (0, 0)),
            (0, (0, 0), "road"), ("clash", 0, 0), ("split", 0, (road,)), (None, 0, (0, 0)), (["road"], 0, (0, 0)),
            (Web(1), 0, (0, 0)), ("hues", road), {0: "road", 1: 0, 2: (0, 0)},
        ):
            self.gives(False, is_hue_refusal, LOOP, 2, [1], ("hue", (0, 0), (bad,)))
        for bad in NOT_SEQUENCES + (road, [road, road], ONE_HUE, [[road]], {0: road}, [{}]):
            self.gives(False, is_hue_refusal, LOOP, 2, [1], ("hue", (0, 0), bad))
            self.gives(False, is_hue_refusal, LOOP, 2, [1], ("hue", bad, (road,)))
            self.gives(False, is_hue_refusal, LOOP, 2, [1], ("hue", (0, 0), (("road", 0, bad),)))
        for bad in (("hue", (0, 0)), ("hue", (0, 0), (road,), ()), ("hue", (road,), (0, 0)), ("Hue", (0, 0), (road,)),
                    (None, (0, 0), (road,)), ("split", (0, 0), (road,)), ("road", (0, 0), (road,))):
            self.gives(False, is_hue_refusal, LOOP, 2, [1], bad)
        for hue in NOT_INTEGERS + (-1, 1, 8, HUGE, -HUGE):
            self.gives(False, is_hue_refusal, LOOP, 2, [1], ("hue", (0, 0), (("road", hue, (0, 0)),)))

    def test_a_later_change(self):
        roads = [["road", 0, [0, 0]]]
        tree = ["hue", [0, 0], roads]
        self.gives(True, is_hue_refusal, LOOP, 2, [1], tree)
        roads.append(["road", 1, [0, 0]])
        self.gives(False, is_hue_refusal, LOOP, 2, [1], tree)
        self.gives(True, is_hue_refusal, LOOP, 2, [1, 1], tree)


if __name__ == "__main__":
    unittest.main()
