"""Dyeings of line webs and middle lots: points 3 to 8 and 35, and huewalks.linedyes."""

import unittest
from itertools import combinations, product
from math import comb

from huewalks.errors import BadNumber, BadThings, BadWeb
from huewalks.linedyes import line_dyes, middle_lots, middle_number, middle_of, out_lots, web_dyes
from huewalks.linewebs import line_web
from huewalks.orders import Order
from huewalks.twoway import find_dyeing, is_dyeing, is_two_way
from huewalks.webs import Web, beside_web, path_web, ring_web, row_web, two_way_web
from helpers import HUGE, NOT_INTEGERS, NOT_SEQUENCES, NOT_WEBS, ProgramTest, all_small_webs, dense_web, hub_web, shown

NOT_MANY = NOT_INTEGERS + (-1, 10, HUGE, -HUGE)

SMALL_WEBS = all_small_webs(2) + all_small_webs(3)[20::7] + [row_web(4), ring_web(4), path_web(5), Web(4, [(3, 0)])]

TWO_WAY_WEBS = [
    Web(0), Web(1), Web(4), two_way_web(2, [(0, 1)]), two_way_web(3, [(0, 1), (1, 2)]),
    two_way_web(3, [(0, 1), (1, 2), (0, 2)]), two_way_web(4, [(0, 1), (2, 3)]), two_way_web(4, [(0, 3)]),
]


def tied(places):
    """The two-way web with all ties."""
    return two_way_web(places, [(i, j) for j in range(places) for i in range(j)])


def all_lots(many):
    """All ascending sequences of integers below many."""
    return [lot for size in range(many + 1) for lot in combinations(range(many), size)]


def middle_by_trial(many, lot):
    """The middle, found by taking away two brackets that stand side by side until there are none."""
    left = list(range(many))
    middle = []
    at = 0
    while at + 1 < len(left):
        if left[at] not in lot and left[at + 1] in lot:
            middle.append(left[at + 1])
            del left[at:at + 2]
            at = 0
        else:
            at += 1
    for x in left:
        if len(middle) < many // 2:
            middle.append(x)
    return tuple(sorted(middle))


def line_dyeings(web, many):
    """All dyeings of the line web, ascending, without making the line web."""
    joined = [(i, j) for i, (_, v) in enumerate(web) for j, (w, _) in enumerate(web) if v == w]
    return [
        list(dyes) for dyes in product(range(many), repeat=len(web.arrows)) if all(dyes[i] != dyes[j] for i, j in joined)
    ]


class MiddleTest(ProgramTest):

    def test_the_examples(self):
        self.gives((0, 1), middle_of, 4, (0, 1, 2))
        self.gives((0, 3), middle_of, 4, (3,))
        self.gives((0, 3), middle_of, lot=[3], many=4)

    def test_middle_lots(self):
        for many in range(10):
            self.gives(list(combinations(range(many), many // 2)), middle_lots, many)
            self.gives(comb(many, many // 2), middle_number, many)
        self.gives([()], middle_lots, many=0)
        self.gives([()], middle_lots, 1)
        self.gives([(0,), (1,)], middle_lots, 2)
        self.gives(126, middle_number, many=9)

    def test_all_sets(self):
        for many in range(10):
            for lot in all_lots(many):
                middle = middle_of(many, lot)
                self.assertEqual(shown(middle), shown(middle_by_trial(many, lot)))
                self.assertEqual(shown(middle_of(many, list(lot))), shown(middle))
                self.assertEqual(len(middle), many // 2)

    def test_empty_and_full_sets(self):
        self.gives((), middle_of, 0, ())
        self.gives((), middle_of, 1, [])
        self.gives((), middle_of, 1, [0])
        for many in range(2, 10):
            self.gives(tuple(range(many // 2)), middle_of, many, [])
            self.gives(tuple(range(many // 2)), middle_of, many, tuple(range(many)))

    def test_brackets_that_match_wholly_and_not_at_all(self):
        self.gives((1, 3, 5, 7), middle_of, 8, (1, 3, 5, 7))
        self.gives((4, 5, 6, 7), middle_of, 8, (4, 5, 6, 7))
        self.gives((2, 3, 5), middle_of, 6, [2, 3, 5])
        self.gives((0, 1, 2, 3), middle_of, 9, (0, 1, 2, 3, 4, 5))
        self.gives((0, 1, 2, 3), middle_of, 8, (0, 1))
        self.gives((0, 2, 5), middle_of, 7, (2, 5))

    def test_sets_with_the_same_middle_are_within_each_other(self):
        for many in range(7):
            for first in all_lots(many):
                for second in all_lots(many):
                    if middle_of(many, first) == middle_of(many, second):
                        self.assertTrue(set(first) <= set(second) or set(second) <= set(first))

    def test_the_middle_of_a_middle_lot_is_itself(self):
        for many in range(10):
            for lot in middle_lots(many):
                self.assertEqual(middle_of(many, lot), lot)

    def test_wrong_sets(self):
        for lot in NOT_SEQUENCES:
            self.refused(BadThings(None), middle_of, 4, lot)
        for member in NOT_INTEGERS + (-1, 4, HUGE, -HUGE):
            self.refused(BadThings(0), middle_of, 4, [member])
            self.refused(BadThings(1), middle_of, 4, (1, member, 0, 0))
            self.refused(BadThings(2), middle_of, 4, [0, 3, member])
        self.refused(BadThings(1), middle_of, 4, [1, 1])
        self.refused(BadThings(2), middle_of, 4, (0, 2, 1, None))
        self.refused(BadThings(0), middle_of, 0, [0])
        self.refused(BadThings(9), middle_of, 9, list(range(10)))
        self.refused(BadThings(1), middle_of, 9, [0] * 20000)

    def test_wrong_numbers(self):
        for many in NOT_MANY:
            self.refused(BadNumber(), middle_number, many)
            self.refused(BadNumber(), middle_lots, many)
            self.refused(BadNumber(), middle_of, many, None)
            self.refused(BadNumber(), line_dyes, Web(1), many, None)
            self.refused(BadNumber(), out_lots, Web(1), many, None)
            self.refused(BadNumber(), web_dyes, Web(1), many, None)


class LineDyesTest(ProgramTest):

    def test_all_dyeings_of_small_webs(self):
        for many in range(6):
            lots = middle_lots(many)
            for web in SMALL_WEBS:
                if len(lots) ** web.places > 1300:
                    continue
                for dyes in product(range(len(lots)), repeat=web.places):
                    if not is_dyeing(web, len(lots), dyes):
                        continue
                    expected = [min(set(lots[dyes[u]]) - set(lots[dyes[v]])) for u, v in web]
                    self.assertEqual(shown(line_dyes(web, many, dyes)), shown(expected))
                    self.assertEqual(shown(line_dyes(web, many, list(dyes))), shown(expected))
                    self.assertIs(is_dyeing(line_web(web), many, expected), True)

    def test_ordinary_answers(self):
        self.gives([1, 0], line_dyes, two_way_web(2, [(0, 1)]), 2, [1, 0])
        self.gives([1, 0], line_dyes, dyes=(1, 0), many=2, web=two_way_web(2, [(0, 1)]))
        self.gives([0, 1], line_dyes, path_web(3), 2, [0, 1, 0])
        self.gives([0, 0, 1], line_dyes, row_web(3), 3, [0, 1, 2])
        self.gives([], line_dyes, Web(3), 0, [0, 0, 0])
        self.gives([], line_dyes, Web(0), 9, [])

    def test_the_line_web_may_be_far_too_great(self):
        web = hub_web(1000, 999)
        self.gives([0] * 1000 + [1] * 999, line_dyes, web, 2, [0] * 1999 + [1])
        self.gives([(0,)] * 1000 + [()] * 999 + [(1,)], out_lots, web, 2, [0] * 1000 + [1] * 999)
        self.refused(BadThings(None), out_lots, web, 2, [0] * 1000 + [1] * 998 + [0])
        star = two_way_web(1001, [(0, i) for i in range(1, 1001)])
        self.gives([0] + [1] * 1000, web_dyes, star, 2, [0] * 1000 + [1] * 1000)
        self.gives([0] * 1000 + [1] * 1000, line_dyes, star, 2, [0] + [1] * 1000)

    def test_wrong_dyes(self):
        for dyes in NOT_SEQUENCES + ([], [0], [0, 1], (0, 1, 0, 1), [None] * 4):
            self.refused(BadThings(None), line_dyes, path_web(3), 2, dyes)
        for dye in NOT_INTEGERS + (-1, 2, HUGE, -HUGE):
            self.refused(BadThings(0), line_dyes, path_web(3), 2, [dye, 0, None])
            self.refused(BadThings(2), line_dyes, path_web(3), 2, (0, 0, dye))
        self.refused(BadThings(2), line_dyes, path_web(3), 3, (0, 0, 3))
        self.refused(BadThings(None), line_dyes, path_web(3), 2, (0, 1, 1))
        self.refused(BadThings(None), line_dyes, path_web(2), 0, (0, 0))
        self.refused(BadThings(None), line_dyes, path_web(2), 1, (0, 0))
        self.refused(BadThings(None), line_dyes, ring_web(1), 9, [5])
        self.refused(BadThings(1), line_dyes, path_web(2), 9, [125, 126])
        self.gives([0], line_dyes, path_web(2), 9, [0, 125])

    def test_wrong_webs(self):
        for web in NOT_WEBS:
            self.refused(BadWeb(None), line_dyes, web, None, None)
            self.refused(BadWeb(None), out_lots, web, None, None)
            self.refused(BadWeb(None), web_dyes, web, None, None)


class OutLotsTest(ProgramTest):

    def test_all_dyeings_of_small_line_webs(self):
        for many in range(4):
            for web in SMALL_WEBS:
                if many ** len(web.arrows) > 800:
                    continue
                right = line_dyeings(web, many)
                for dyes in product(range(many), repeat=len(web.arrows)):
                    if list(dyes) not in right:
                        self.refused(BadThings(None), out_lots, web, many, dyes)
                        continue
                    expected = [
                        tuple(sorted({dye for (u, _), dye in zip(web, dyes) if u == place}))
                        for place in range(web.places)
                    ]
                    self.assertEqual(shown(out_lots(web, many, dyes)), shown(expected))
                    self.assertEqual(shown(out_lots(web, many, list(dyes))), shown(expected))
                    for u, v in web:
                        self.assertFalse(set(expected[u]) <= set(expected[v]))

    def test_it_refuses_what_is_no_dyeing_of_the_line_web(self):
        for web in SMALL_WEBS[::3]:
            if len(web.arrows) <= 6:
                for dyes in product(range(2), repeat=len(web.arrows)):
                    if not is_dyeing(line_web(web), 2, dyes):
                        self.refused(BadThings(None), out_lots, web, 2, dyes)
                    else:
                        self.assertEqual(len(out_lots(web, 2, dyes)), web.places)

    def test_ordinary_answers(self):
        self.gives([(0, 2), (1,), ()], out_lots, row_web(3), 3, [0, 2, 1])
        self.gives([(0, 2), (1,), ()], out_lots, dyes=(0, 2, 1), many=3, web=row_web(3))
        self.gives([(8,), (0,)], out_lots, two_way_web(2, [(0, 1)]), 9, [8, 0])
        self.gives([], out_lots, Web(0), 0, [])
        self.gives([(), ()], out_lots, Web(2), 0, ())
        self.gives([(0,), ()], out_lots, path_web(2), 1, [0])

    def test_wrong_dyes(self):
        for dyes in NOT_SEQUENCES + ([], [0], (0, 1, 0), [None] * 3):
            self.refused(BadThings(None), out_lots, path_web(3), 2, dyes)
            self.refused(BadThings(None), web_dyes, two_way_web(2, [(0, 1)]), 2, dyes)
        for dye in NOT_INTEGERS + (-1, 2, HUGE, -HUGE):
            self.refused(BadThings(0), out_lots, path_web(3), 2, [dye, None])
            self.refused(BadThings(1), out_lots, path_web(3), 2, (0, dye))
            self.refused(BadThings(0), web_dyes, two_way_web(2, [(0, 1)]), 2, [dye, None])
            self.refused(BadThings(1), web_dyes, two_way_web(2, [(0, 1)]), 2, (0, dye))
        self.refused(BadThings(None), out_lots, path_web(3), 2, [1, 1])
        self.refused(BadThings(0), out_lots, path_web(2), 0, [0])
        self.refused(BadThings(None), out_lots, ring_web(1), 9, [8])
        self.refused(BadThings(None), out_lots, dense_web(2), 9, [0, 1, 2, 3])
        self.refused(BadThings(None), web_dyes, two_way_web(2, [(0, 1)]), 2, [1, 1])
        self.refused(BadThings(None), web_dyes, ring_web(1), 9, [0])
        self.refused(BadThings(None), web_dyes, dense_web(2), 9, (0, 1, 2, 3))


class WebDyesTest(ProgramTest):

    def test_all_dyeings_of_small_two_way_webs(self):
        for many in range(5):
            lots = middle_lots(many)
            for web in TWO_WAY_WEBS:
                for dyes in line_dyeings(web, many):
                    expected = [lots.index(middle_by_trial(many, lot)) for lot in out_lots(web, many, dyes)]
                    self.assertEqual(shown(web_dyes(web, many, dyes)), shown(expected))
                    self.assertIs(is_dyeing(web, len(lots), expected), True)

    def test_there_and_back(self):
        for many in range(2, 10):
            for web in TWO_WAY_WEBS + [tied(6), tied(7), two_way_web(8, [(i, (i + 1) % 8) for i in range(8)])]:
                dyes = find_dyeing(web, middle_number(many))
                if dyes is None:
                    self.assertGreater(web.places, middle_number(many))
                    continue
                self.assertIs(is_two_way(web), True)
                lined = line_dyes(web, many, dyes)
                again = web_dyes(web, many, lined)
                self.assertIs(is_dyeing(web, middle_number(many), again), True)

    def test_as_many_dyes_as_there_are_middle_lots(self):
        # The line web of all ties of m places has a dyeing with d dyes exactly if there are m middle lots of d.
        for places in range(1, 5):
            for many in range(4):
                self.assertIs(len(line_dyeings(tied(places), many)) > 0, middle_number(many) >= places)

    def test_ordinary_answers(self):
        self.gives([1, 0], web_dyes, two_way_web(2, [(0, 1)]), 2, [1, 0])
        self.gives([1, 0], web_dyes, dyes=(1, 0), many=2, web=two_way_web(2, [(0, 1)]))
        self.gives([0, 0], web_dyes, Web(2), 0, [])
        self.gives([0, 0], web_dyes, Web(2), 9, [])
        self.gives([], web_dyes, Web(0), 4, ())

    def test_webs_that_are_not_two_way(self):
        for web in (path_web(2), ring_web(3), row_web(4), beside_web(tied(3), path_web(2)), Order(2), hub_web(1000, 999)):
            self.refused(BadWeb(None), web_dyes, web, None, None)


class CallsInBetweenTest(ProgramTest):

    def answers(self):
        return shown([
            middle_number(5), middle_lots(4), middle_of(6, [1, 2]), line_dyes(row_web(3), 3, [0, 1, 2]),
            out_lots(row_web(3), 3, [0, 2, 1]), web_dyes(tied(2), 2, [1, 0]),
        ])

    def test_equal_calls_give_equal_answers(self):
        before = self.answers()
        for many in range(10):
            middle_lots(many)
        line_dyes(row_web(4), 9, [3, 2, 1, 0])
        out_lots(path_web(4), 5, [4, 3, 2])
        self.assertEqual(self.answers(), before)

    def test_a_later_change(self):
        before = self.answers()
        middle_lots(4).clear()
        line_dyes(row_web(3), 3, [0, 1, 2]).clear()
        out_lots(row_web(3), 3, [0, 2, 1]).clear()
        web_dyes(tied(2), 2, [1, 0]).clear()
        self.assertEqual(self.answers(), before)
        dyes = [0, 1]
        self.gives([0], line_dyes, path_web(2), 2, dyes)
        dyes.reverse()
        self.gives([1], line_dyes, path_web(2), 2, dyes)


if __name__ == "__main__":
    unittest.main()
