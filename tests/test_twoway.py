"""Dyeings and two-way webs: points 3 to 8 and 34, and huewalks.twoway."""

import unittest
from itertools import product

from huewalks.closedlots import tower
from huewalks.errors import BadBounds, BadLaying, BadNumber, BadThings, BadWeb, TooMany
from huewalks.huelay import can_hue, hueing_of
from huewalks.lay import find_laying, is_laying
from huewalks.orders import Order
from huewalks.roads import find_hueing, keeps_bounds
from huewalks.twoway import (
    can_hue_two_way, dye_laying, fewest_dyes, find_dyeing, greedy_dyes, is_dyeing, is_two_way, laying_dyes,
    two_way_hueing, two_way_limit,
)
from huewalks.walks import all_walks
from huewalks.webs import Web, beside_web, path_web, ring_web, row_web, two_way_web
from huewalks.width import chain_cover, wide_lot, width_of
from helpers import (
    HUGE, NOT_INTEGERS, NOT_SEQUENCES, NOT_SPANS, NOT_WEBS, ODD_VALUES, TOWERS_OF_200, TOWERS_OF_MORE, WRONG_BOUNDS,
    ProgramTest, all_small_webs, dense_web, hub_web, shown, spoiled,
)

SMALL_WEBS = all_small_webs(2) + all_small_webs(3)[20::9] + [row_web(4), ring_web(5), path_web(4), Web(4, [(3, 0)])]

TWO_WAY_WEBS = [
    Web(0), Web(1), Web(3), two_way_web(2, [(0, 1)]), two_way_web(3, [(0, 1), (1, 2)]),
    two_way_web(3, [(0, 1), (1, 2), (0, 2)]), two_way_web(4, [(0, 1), (1, 2), (2, 3), (3, 0)]), ring_web(1),
    two_way_web(4, [(0, 2)]),
]

# Towers of 101 things or more, but no more than 200.
TOWERS_OF_OVER_100 = TOWERS_OF_200 + ((2, [101]), (3, [100]), (4, [2, 6]), (3, [2] * 4), (6, [97]))

NOT_MANY = NOT_INTEGERS + (-1, 2001, HUGE, -HUGE)


def tied(places):
    """The two-way web with all ties."""
    return two_way_web(places, [(i, j) for j in range(places) for i in range(j)])


def dyeings_by_trial(web, many):
    """All dyeings, ascending."""
    return [list(dyes) for dyes in product(range(many), repeat=web.places) if all(dyes[u] != dyes[v] for u, v in web)]


class DyeingTest(ProgramTest):

    def test_small_webs(self):
        for web in SMALL_WEBS:
            fewest = None
            for many in range(6):
                right = dyeings_by_trial(web, many)
                self.gives(right[0] if right else None, find_dyeing, web, many)
                for dyes in product(range(many), repeat=web.places if many < 4 else 0):
                    self.assertIs(is_dyeing(web, many, dyes), list(dyes) in right)
                    self.assertIs(is_dyeing(web, many, list(dyes)), list(dyes) in right)
                if right and fewest is None:
                    fewest = many
            self.gives(fewest, fewest_dyes, web)

    def test_ordinary_answers(self):
        self.gives(True, is_dyeing, row_web(3), 3, [2, 0, 1])
        self.gives(False, is_dyeing, dyes=(2, 0, 2), many=3, web=row_web(3))
        self.gives([0, 1, 0, 1, 2], find_dyeing, many=3, web=ring_web(5))
        self.gives(3, fewest_dyes, web=ring_web(5))
        self.gives([0, 1, 0, 1, 2], greedy_dyes, web=ring_web(5))

    def test_0_and_1_dyes(self):
        for many in (0, 1, 2000):
            self.gives(True, is_dyeing, Web(0), many, [])
            self.gives([], find_dyeing, Web(0), many)
        self.gives(0, fewest_dyes, Web(0))
        self.gives([], greedy_dyes, Web(0))
        self.gives(False, is_dyeing, Web(1), 0, [0])
        self.gives(False, is_dyeing, Web(1), 0, [])
        self.gives(None, find_dyeing, Web(1), 0)
        self.gives(True, is_dyeing, Web(3), 1, [0, 0, 0])
        self.gives(False, is_dyeing, path_web(2), 1, [0, 0])
        self.gives([0, 0, 0], find_dyeing, Web(3), 1)
        self.gives(None, find_dyeing, path_web(2), 1)
        self.gives(1, fewest_dyes, Web(8))

    def test_exactly_as_many_dyes_as_are_needed_and_one_fewer(self):
        for web, needed in (
            (tied(8), 8), (row_web(8), 8), (ring_web(7), 3), (ring_web(8), 2), (path_web(8), 2),
            (beside_web(tied(5), row_web(3)), 5), (two_way_web(8, [(i, j) for i in range(4) for j in range(4, 8)]), 2),
        ):
            self.assertIsNotNone(find_dyeing(web, needed))
            self.gives(None, find_dyeing, web, needed - 1)
            self.gives(needed, fewest_dyes, web)
        self.gives(list(range(8)), find_dyeing, tied(8), 2000)
        halves = two_way_web(8, [(i, j) for i in range(4) for j in range(4, 8)])
        self.gives([0, 0, 0, 0, 1, 1, 1, 1], find_dyeing, halves, 2)

    def test_the_least_dyeing_is_not_the_greedy_one(self):
        # The greedy dyes need a third dye here.
        web = Web(4, [(0, 3), (3, 2), (1, 2)])
        self.gives([0, 0, 1, 2], greedy_dyes, web)
        self.gives([0, 0, 1, 2], find_dyeing, web, 3)
        self.gives([0, 1, 0, 1], find_dyeing, web, 2)

    def test_loops(self):
        for web in (ring_web(1), Web(8, [(7, 7)]), dense_web(3)):
            for many in (0, 1, 8, 2000):
                self.gives(None, find_dyeing, web, many)
            self.gives(None, fewest_dyes, web)
            self.gives(None, greedy_dyes, web)
            self.gives(False, is_dyeing, web, 2000, list(range(web.places)))
        self.gives(None, greedy_dyes, Web(2000, [(1999, 1999)]))

    def test_the_direction_of_an_arrow_does_not_matter(self):
        for web in SMALL_WEBS:
            self.gives(greedy_dyes(web), greedy_dyes, web.turned())
            self.gives(find_dyeing(web, 3), find_dyeing, web.turned(), 3)

    def test_greedy_dyes(self):
        for web in SMALL_WEBS:
            if any([u == v for u, v in web]):
                self.gives(None, greedy_dyes, web)
                continue
            expected = []
            for place in range(web.places):
                taken = [expected[v] for v in range(place) if (v, place) in web or (place, v) in web]
                expected.append(min(set(range(place + 1)) - set(taken)))
            self.gives(expected, greedy_dyes, web)
        self.gives([i % 2 for i in range(2000)], greedy_dyes, path_web(2000))
        self.gives(list(range(63)), greedy_dyes, row_web(63))
        self.gives([0] * 1999 + [1], greedy_dyes, Web(2000, [(1999, i) for i in range(1999)]))

    def test_more_than_8_places(self):
        self.assertEqual(find_dyeing(row_web(8), 8), list(range(8)))
        for web in (Web(9), row_web(9), Web(9, [(0, 0)]), path_web(2000)):
            for many in (0, 1, 9, 2000):
                self.refused(TooMany(8), find_dyeing, web, many)
            self.refused(TooMany(8), fewest_dyes, web)

    def test_wrong_arguments(self):
        for web in NOT_WEBS:
            self.refused(BadWeb(None), is_dyeing, web, None, None)
            self.refused(BadWeb(None), find_dyeing, web, None)
            self.refused(BadWeb(None), fewest_dyes, web)
            self.refused(BadWeb(None), greedy_dyes, web)
        for many in NOT_MANY:
            self.refused(BadNumber(), is_dyeing, Web(9), many, None)
            self.refused(BadNumber(), find_dyeing, Web(9), many)

    def test_judged_values_of_every_kind(self):
        self.judges_not(ODD_VALUES, is_dyeing, row_web(3), 2000)
        self.judges_not(ODD_VALUES, is_dyeing, Web(4), 3)
        self.judges_not(spoiled([0, 1, 2]), is_dyeing, row_web(3), 2000)
        self.judges_not(spoiled((1, 0)), is_dyeing, Web(2), 2)
        self.judges_not(([], [0, 1], [0, 1, 2, 3], [0, 1, 3], (0, 1, 1)), is_dyeing, row_web(3), 3)
        self.gives(True, is_dyeing, row_web(3), 2000, [1999, 0, 1])
        self.gives(False, is_dyeing, row_web(3), 1999, [1999, 0, 1])


class IsTwoWayTest(ProgramTest):

    def test_small_webs(self):
        for web in all_small_webs(3)[::3] + TWO_WAY_WEBS:
            self.gives(sorted([(v, u) for u, v in web]) == web.arrows, is_two_way, web)
        for web in TWO_WAY_WEBS + [Web(2000), tied(45), Web(2, [(1, 1)]), dense_web(44)]:
            self.gives(True, is_two_way, web=web)
        self.gives(False, is_two_way, tied(45).without_arrow(44, 0))

    def test_values_of_every_kind(self):
        self.judges_not([value for value in ODD_VALUES if not isinstance(value, Web)], is_two_way)
        self.judges_not(NOT_WEBS, is_two_way)


class LimitTest(ProgramTest):

    def test_it_is_the_width_of_the_tower(self):
        for span in range(2, 7):
            for bounds in ([1], [4], [2, 2], (3, 1), [1] * 8):
                self.gives(width_of(tower(span, bounds)), two_way_limit, span, bounds)
        self.gives(10, two_way_limit, bounds=(10, 10), span=2)
        self.gives(1, two_way_limit, 2, [100])
        self.gives(1, two_way_limit, 6, [96])

    def test_the_two_limits(self):
        for span, bounds in TOWERS_OF_MORE:
            self.refused(TooMany(200), two_way_limit, span, bounds)
        for span, bounds in TOWERS_OF_OVER_100:
            self.refused(TooMany(100), two_way_limit, span, bounds)

    def test_wrong_arguments(self):
        for span in NOT_SPANS:
            self.refused(BadNumber(), two_way_limit, span, None)
        for bounds, bad_at in WRONG_BOUNDS:
            self.refused(BadBounds(bad_at), two_way_limit, 3, bounds)


class DyeLayingTest(ProgramTest):

    def test_all_dyeings_of_small_webs(self):
        for span, bounds in ((2, [2, 2]), (2, [3, 3]), (3, [2, 2]), (4, [2, 2])):
            order = tower(span, bounds)
            things = wide_lot(order)
            for web in SMALL_WEBS + TWO_WAY_WEBS:
                for dyes in dyeings_by_trial(web, len(things)):
                    expected = [things[dye] for dye in dyes]
                    self.assertEqual(shown(dye_laying(web, span, bounds, dyes)), shown(expected))
                    self.assertIs(is_laying(web, order, expected), True)
                    hues = hueing_of(web, span, bounds, expected)
                    self.assertEqual(shown(two_way_hueing(web, span, bounds, tuple(dyes))), shown(hues))
                    self.assertIs(keeps_bounds(web, span, bounds, hues), True)

    def test_ordinary_answers(self):
        self.gives([1, 2], dye_laying, two_way_web(2, [(0, 1)]), 2, [2, 2], [0, 1])
        self.gives([2, 1, 2], dye_laying, dyes=(1, 0, 1), bounds=(2, 2), span=2, web=path_web(3))
        self.gives([1, 0], two_way_hueing, two_way_web(2, [(0, 1)]), 2, [2, 2], [1, 0])
        self.gives([0, 1], two_way_hueing, dyes=[0, 1], bounds=[2, 2], span=2, web=two_way_web(2, [(0, 1)]))
        self.gives([], dye_laying, Web(0), 6, [1], [])
        self.gives([], two_way_hueing, Web(3), 2, [1], [0, 0, 0])

    def test_the_order_of_the_checks(self):
        for call in (dye_laying, two_way_hueing):
            for web in NOT_WEBS:
                self.refused(BadWeb(None), call, web, 0, None, None)
            for span in NOT_SPANS:
                self.refused(BadNumber(), call, hub_web(69, 29), span, None, None)
            for span in (3, 6):
                self.refused(TooMany(2000), call, hub_web(69, 29), span, None, None)
            for bounds, bad_at in WRONG_BOUNDS:
                self.refused(BadBounds(bad_at), call, path_web(3), 3, bounds, None)
            for span, bounds in TOWERS_OF_MORE:
                self.refused(TooMany(200), call, path_web(3), span, bounds, None)
            for span, bounds in TOWERS_OF_OVER_100:
                self.refused(TooMany(100), call, path_web(3), span, bounds, None)

    def test_wrong_dyes(self):
        for call in (dye_laying, two_way_hueing):
            for dyes in NOT_SEQUENCES + ([], [0], [0, 1], (0, 1, 0, 1), [None] * 4):
                self.refused(BadThings(None), call, path_web(3), 2, [2, 2], dyes)
            for dye in NOT_INTEGERS + (-1, 2, HUGE, -HUGE):
                self.refused(BadThings(0), call, path_web(3), 2, [2, 2], [dye, 0, None])
                self.refused(BadThings(2), call, path_web(3), 2, [2, 2], (0, 0, dye))
            self.refused(BadThings(None), call, path_web(3), 2, [2, 2], [0, 1, 1])
            self.refused(BadThings(None), call, ring_web(1), 2, [2, 2], [1])
            self.refused(BadThings(0), call, path_web(2), 2, [5], [1, 0])
            self.refused(BadThings(None), call, path_web(2), 2, [5], [0, 0])

    def test_a_later_change(self):
        dyes = [0, 1]
        answer = dye_laying(path_web(2), 2, [2, 2], dyes)
        answer.clear()
        self.gives([1, 2], dye_laying, path_web(2), 2, [2, 2], dyes)
        dyes.reverse()
        self.gives([2, 1], dye_laying, path_web(2), 2, [2, 2], dyes)


class TwoWayWebTest(ProgramTest):

    def test_all_layings_of_small_webs(self):
        for span, bounds in ((2, [2, 2]), (2, [3, 2]), (3, [2, 2])):
            order = tower(span, bounds)
            numbers = {thing: k for k, chain in enumerate(chain_cover(order)) for thing in chain}
            for web in TWO_WAY_WEBS:
                for laying in product(range(len(order)), repeat=web.places):
                    if is_laying(web, order, laying):
                        expected = [numbers[thing] for thing in laying]
                        self.assertEqual(shown(laying_dyes(web, span, bounds, laying)), shown(expected))
                        self.assertIs(is_dyeing(web, len(chain_cover(order)), expected), True)

    def test_a_two_way_web_can_be_hued_exactly_if_it_has_a_dyeing(self):
        for web in TWO_WAY_WEBS + [tied(4), tied(3)]:
            for span, bounds in ((2, [1]), (2, [2, 2]), (2, [3, 2]), (3, [2, 2]), (2, [3, 3]), (4, [2])):
                expected = fewest_dyes(web) is not None and fewest_dyes(web) <= two_way_limit(span, bounds)
                self.gives(expected, can_hue_two_way, web, span, bounds)
                if len(tower(span, bounds)) ** web.places <= 10000:
                    self.assertIs(can_hue(web, span, bounds), expected)
                walks = len(all_walks(web, span))
                if walks <= 10 and len(bounds) ** walks <= 1024:
                    self.assertIs(find_hueing(web, span, bounds) is not None, expected)

    def test_ordinary_answers(self):
        self.gives(True, can_hue_two_way, tied(2), 2, [2, 2])
        self.gives(False, can_hue_two_way, bounds=(2, 2), span=2, web=tied(3))
        self.gives(True, can_hue_two_way, tied(8), 2, [8, 8])
        self.gives(False, can_hue_two_way, tied(8), 2, [7, 8])
        self.gives(False, can_hue_two_way, ring_web(1), 2, [10, 10])
        laying = find_laying(tied(2), tower(3, [2, 2]))
        dyes = laying_dyes(laying=tuple(laying), bounds=(2, 2), span=3, web=tied(2))
        self.assertIs(is_dyeing(tied(2), two_way_limit(3, [2, 2]), dyes), True)

    def test_webs_that_are_not_two_way(self):
        for web in NOT_WEBS + (path_web(2), ring_web(3), row_web(20), hub_web(69, 29), Order(3)):
            self.refused(BadWeb(None), laying_dyes, web, 0, None, None)
            self.refused(BadWeb(None), can_hue_two_way, web, 0, None)

    def test_the_order_of_the_checks(self):
        many_walks = two_way_web(46, [(0, i) for i in range(1, 46)])
        for span in NOT_SPANS:
            self.refused(BadNumber(), laying_dyes, many_walks, span, None, None)
            self.refused(BadNumber(), can_hue_two_way, many_walks, span, None)
        for span in (3, 6):
            self.refused(TooMany(2000), laying_dyes, many_walks, span, None, None)
            self.refused(TooMany(2000), can_hue_two_way, many_walks, span, None)
        for bounds, bad_at in WRONG_BOUNDS:
            self.refused(BadBounds(bad_at), laying_dyes, Web(9), 3, bounds, None)
            self.refused(BadBounds(bad_at), can_hue_two_way, Web(9), 3, bounds)
        for span, bounds in TOWERS_OF_MORE:
            self.refused(TooMany(200), laying_dyes, Web(9), span, bounds, None)
            self.refused(TooMany(200), can_hue_two_way, Web(9), span, bounds)
        for span, bounds in TOWERS_OF_OVER_100:
            self.refused(TooMany(100), laying_dyes, Web(9), span, bounds, None)
            self.refused(TooMany(100), can_hue_two_way, Web(9), span, bounds)
        for web in (Web(9), tied(9), Web(9, [(0, 0)]), beside_web(tied(8), ring_web(1)), Web(2000)):
            self.refused(TooMany(8), can_hue_two_way, web, 2, [1])
            self.refused(TooMany(8), can_hue_two_way, web, 2, [10, 10])
        self.gives([0] * 9, laying_dyes, Web(9), 2, [1], [0] * 9)

    def test_wrong_layings(self):
        web = two_way_web(3, [(0, 2)])
        for laying in NOT_SEQUENCES + ([], [0, 1], (0, 1, 2, 3), [None] * 4):
            self.refused(BadLaying(None), laying_dyes, web, 2, [2, 2], laying)
        for thing in NOT_INTEGERS + (-1, 4, HUGE, -HUGE):
            self.refused(BadLaying(1), laying_dyes, web, 2, [2, 2], [0, thing, None])
            self.refused(BadLaying(2), laying_dyes, web, 2, (2, 2), (0, 0, thing))
        self.refused(BadLaying(None), laying_dyes, web, 2, [2, 2], [0, 3, 1])
        self.refused(BadLaying(None), laying_dyes, ring_web(1), 2, [2, 2], [1])
        self.refused(BadLaying(None), laying_dyes, tied(3), 2, [2, 2], [0, 1, 2])

    def test_equal_calls_with_others_in_between(self):
        def answers():
            return shown([
                find_dyeing(ring_web(5), 3), fewest_dyes(row_web(4)), greedy_dyes(row_web(4)), two_way_limit(3, [2, 2]),
                dye_laying(path_web(2), 3, [2, 2], [0, 1]), two_way_hueing(path_web(2), 3, [2, 2], [0, 1]),
                laying_dyes(tied(2), 2, [2, 2], [1, 2]), can_hue_two_way(tied(3), 2, [3, 3]),
            ])
        before = answers()
        for web in SMALL_WEBS[::7]:
            fewest_dyes(web)
            greedy_dyes(web)
        two_way_limit(2, [5, 5])
        self.assertEqual(answers(), before)


if __name__ == "__main__":
    unittest.main()
