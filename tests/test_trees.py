"""The size and the depth of well-formed trees: points 26, 27 and 47, and tree_size and tree_depth of huewalks.cases."""

import unittest

from huewalks.cases import hue_refusal, tree_depth, tree_size
from huewalks.errors import BadPaper
from huewalks.lay import refusal
from huewalks.orders import chain_order
from huewalks.webs import Web, row_web
from helpers import HUGE, NOT_INTEGERS, NOT_SEQUENCES, ODD_VALUES, ProgramTest, as_lists, shown, spoiled

CLASH = ("clash", 0, 9999)
ROAD = ("road", 9999, (0, 9999))


def nested(word, named, deep, leaves):
    """A tree with this many branches on a path, all other trees being leaves."""
    tree = (word, named, leaves)
    for _ in range(deep - 1):
        tree = (word, named, (tree,) + leaves)
    return tree


def counted(tree):
    """The size and the depth of a tree that is well formed."""
    below = [counted(each) for each in tree[2]] if tree[0] in ("split", "hue") else []
    depth = max([each[1] for each in below], default=0) + (tree[0] in ("split", "hue"))
    return (1 + sum([each[0] for each in below]), depth)


class TreesTest(ProgramTest):

    def measures(self, size, depth, tree):
        self.gives(size, tree_size, tree)
        self.gives(depth, tree_depth, tree)

    def refuses(self, tree):
        self.refused(BadPaper(None), tree_size, tree)
        self.refused(BadPaper(None), tree_depth, tree)

    def test_trees_without_trees_below_them(self):
        self.measures(1, 0, CLASH)
        self.measures(1, 0, ["clash", 5, 5])
        self.measures(1, 0, ROAD)
        self.measures(1, 0, ["road", 0, []])
        self.measures(1, 1, ("split", 0, ()))
        self.measures(1, 1, ["split", 9999, []])
        self.measures(1, 1, ("hue", (), ()))
        self.measures(1, 1, ["hue", [9999, 0, 0], []])

    def test_ordinary_trees(self):
        self.measures(2, 1, ("split", 0, (CLASH,)))
        self.measures(4, 2, ("split", 0, (CLASH, ("split", 0, [CLASH]))))
        self.measures(4, 3, ["split", 7, [["split", 7, [["split", 7, []]]], ["split", 1, []]]])
        self.measures(4, 2, ("hue", (0, 1), (ROAD, ("hue", (), (ROAD,)))))
        self.gives(2, tree_size, tree=["hue", [1], [ROAD]])
        self.gives(1, tree_depth, tree=["hue", [1], [ROAD]])

    def test_trees_that_the_program_returns(self):
        for tree in (
            refusal(row_web(3), chain_order(2)), refusal(Web(13, [(12, 12)]), chain_order(2)),
            hue_refusal(row_web(5), 2, [2, 2]), hue_refusal(row_web(4), 3, [2]),
        ):
            size, depth = counted(tree)
            self.measures(size, depth, tree)
            self.measures(size, depth, as_lists(tree))
        self.measures(2 ** 14 - 1, 13, refusal(Web(13, [(12, 12)]), chain_order(2)))

    def test_at_most_13_splits_and_10_hue_trees_on_a_path(self):
        for leaves in ((), (CLASH,), (CLASH, CLASH)):
            many = len(leaves)
            self.measures(13 + 13 * many, 13, nested("split", 3, 13, leaves))
            self.measures(13 + 13 * many, 13, as_lists(nested("split", 3, 13, leaves)))
            self.refuses(nested("split", 3, 14, leaves))
            self.refuses(nested("split", 3, 19, leaves))
        for leaves in ((), (ROAD,), (ROAD, ROAD)):
            many = len(leaves)
            self.measures(10 + 10 * many, 10, nested("hue", (1, 2), 10, leaves))
            self.refuses(nested("hue", (1, 2), 11, leaves))
            self.refuses(nested("hue", [1, 2], 14, leaves))

    def test_at_most_200_trees_directly_below_one(self):
        for word, named, leaf in (("split", 0, CLASH), ("hue", (0,), ROAD)):
            self.measures(201, 1, (word, named, (leaf,) * 200))
            self.measures(401, 2, (word, named, (leaf,) * 199 + ((word, named, (leaf,) * 200),)))
            self.refuses((word, named, (leaf,) * 201))
            self.refuses((word, named, ((word, named, (leaf,) * 201),)))

    def test_at_most_20000_trees_in_all(self):
        for word, named, leaf in (("split", 0, CLASH), ("hue", (), ("road", 0, ()))):
            full = (word, named, (leaf,) * 99)
            self.measures(19901, 2, (word, named, (full,) * 199))
            most = (word, named, (full,) * 199 + ((word, named, (leaf,) * 98),))
            self.measures(20000, 2, most)
            self.refuses((word, named, (full,) * 200))
            self.refuses((word, named, (most,)))
            self.refuses((word, named, ((word, named, (leaf,) * 99),) + most[2][:199]))
            # One tree that stands in many places counts at each of them.
            self.refuses((word, named, ((word, named, (full,) * 2),) * 100 + (leaf,)))

    def test_at_most_9999_places_of_a_road_or_a_walk(self):
        for many in (0, 1, 9998, 9999):
            self.measures(1, 0, ("road", 0, (9999,) * many))
            self.measures(2, 1, ("hue", [0] * many, [ROAD]))
        self.refuses(("road", 0, (0,) * 10000))
        self.refuses(("hue", [0] * 10000, []))
        self.refuses(("hue", (), (("road", 0, [1] * 10000),)))

    def test_integers_from_0_to_9999(self):
        for number in NOT_INTEGERS + (-1, 10000, HUGE, -HUGE):
            for tree in (
                ("clash", number, 0), ("clash", 0, number), ("split", number, ()), ("road", number, ()),
                ("road", 0, (number,)), ("road", 0, [0, 0, number]), ("hue", (number,), ()), ("hue", [1, number], ()),
                ("split", 0, (("clash", number, 0),)), ("hue", (), (("road", number, ()),)),
            ):
                self.refuses(tree)

    def test_the_two_kinds_are_not_mixed(self):
        for tree in (
            ("split", 0, (ROAD,)), ("split", 0, (CLASH, ("hue", (), ()))), ("hue", (), (CLASH,)),
            ("hue", (), (ROAD, ("split", 0, ()))), ("hue", (), (("hue", (), (CLASH,)),)),
            ("split", 0, (("split", 0, (("split", 0, (ROAD,)),)),)),
        ):
            self.refuses(tree)

    def test_other_shapes(self):
        for tree in ODD_VALUES + (
            ("clash", 0), ("clash", 0, 0, 0), ("clash",), ("road", 0), ("road", (), 0), ("road", 0, (), ()),
            ("split", 0), ("split", (), 0), ("split", 0, CLASH), ("hue", 0, ()), ("hue", ()), ("hue", (), (), ()),
            ("cases", CLASH), ("hues", ROAD), ("cases", 0, 0), ("", 0, 0), ("Clash", 0, 0), ("clash ", 0, 0),
            ("clash", (0,), 0), ("split", 0, ((),)), ("split", 0, (CLASH, None)), ("hue", (), (ROAD, [])), [CLASH],
            {0: "clash", 1: 0, 2: 0}, (["clash"], 0, 0), (Web(1), 0, 0), ((), (), ()),
        ):
            self.refuses(tree)
        for value in NOT_SEQUENCES:
            self.refuses(("split", 0, value))
            self.refuses(("road", 0, value))
            self.refuses(("hue", value, ()))
            self.refuses(("hue", (), value))
        for tree in spoiled(("split", 1, (("clash", 0, 1), ("split", 5, ())))):
            self.refuses(tree)
        for tree in spoiled(["hue", [1, 0], [["road", 0, [1]], ["hue", [], []]]]):
            self.refuses(tree)

    def test_a_later_change(self):
        trees = []
        tree = ["split", 0, trees]
        self.measures(1, 1, tree)
        trees.append(["split", 0, []])
        self.measures(2, 2, tree)

    def test_equal_calls_with_others_in_between(self):
        def answers():
            return shown([tree_size(("split", 0, (CLASH,))), tree_depth(nested("hue", (), 4, (ROAD,)))])
        before = answers()
        tree_size(nested("split", 3, 13, (CLASH,)))
        self.assertEqual(answers(), before)


if __name__ == "__main__":
    unittest.main()
