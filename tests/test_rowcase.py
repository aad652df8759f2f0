"""Rows and the row limit: points 3 to 7 and 32, and huewalks.rowcase."""

import unittest
from itertools import permutations, product
from math import comb

from huewalks.closedlots import tower
from huewalks.errors import BadBounds, BadHueing, BadNumber, BadWeb, RowTooLong, TooMany
from huewalks.huelay import hueing_of, told_hue
from huewalks.lay import is_laying
from huewalks.roads import find_hueing, keeps_bounds, long_road
from huewalks.rowcase import forced_road, is_row_in, longest_row, row_hueing, row_limit
from huewalks.walks import all_walks
from huewalks.webs import Web, path_web, ring_web, row_web, two_way_web
from helpers import (
    HUGE, NOT_INTEGERS, NOT_SEQUENCES, NOT_SPANS, NOT_WEBS, ODD_VALUES, TOWERS_OF_200, TOWERS_OF_MORE, WRONG_BOUNDS,
    ProgramTest, all_small_webs, dense_web, hub_web, shown, spoiled,
)

SMALL_WEBS = all_small_webs(3)[::3] + [row_web(5), ring_web(5), path_web(4), dense_web(4), row_web(4).turned()]


def is_row_by_trial(web, places):
    if len(set(places)) != len(places) or not all(place in range(web.places) for place in places):
        return False
    return all((places[i], places[j]) in web.arrows for j in range(len(places)) for i in range(j))


def longest_row_by_trial(web):
    for many in range(web.places, -1, -1):
        rows = [places for places in permutations(range(web.places), many) if is_row_by_trial(web, places)]
        if rows:
            return list(min(rows))
    return None


class RowLimitTest(ProgramTest):

    def test_it_is_the_number_of_things_of_the_tower(self):
        for span in range(2, 7):
            for bounds in ([1], [2], [5], [2, 2], (1, 3), [1, 1, 1], [1] * 8):
                self.gives(len(tower(span, bounds)), row_limit, span, bounds)
        for span, bounds in TOWERS_OF_200:
            self.gives(200, row_limit, bounds=bounds, span=span)

    def test_limits_that_are_known_without_listing(self):
        self.gives(200, row_limit, 2, [200])
        self.gives(201, row_limit, 2, [67, 3])
        self.gives(200 ** 8, row_limit, 2, (200,) * 8)
        self.gives(201, row_limit, 3, [200])
        self.gives(comb(400, 200), row_limit, 3, [200, 200])
        self.gives(201, row_limit, 3, [1, 1, 200])
        self.gives(980, row_limit, 3, [3, 3, 3])
        self.gives(210, row_limit, 3, (4, 6))

    def test_a_limit_beyond_200_in_other_cases(self):
        for span, bounds in ((3, [2] * 5), (3, [3, 2, 2, 2]), (3, [200] * 4), (4, [2, 7]), (4, [199]), (5, [2, 2, 2]),
                             (6, [197]), (6, [200] * 8)):
            self.refused(TooMany(200), row_limit, span, bounds)
        self.gives(168, row_limit, 3, [2, 2, 2, 2])
        self.gives(128, row_limit, 4, [2, 6])
        self.gives(200, row_limit, 6, [196])

    def test_wrong_arguments(self):
        for span in NOT_SPANS:
            self.refused(BadNumber(), row_limit, span, None)
        for span in range(2, 7):
            for bounds, bad_at in WRONG_BOUNDS:
                self.refused(BadBounds(bad_at), row_limit, span, bounds)


class RowHueingTest(ProgramTest):

    def test_rows_up_to_the_limit(self):
        for span in range(2, 7):
            for bounds in ([1], [2], [2, 2], (1, 3)):
                order = tower(span, bounds)
                for places in range(len(order) + 1):
                    web = row_web(places)
                    identity = list(range(places))
                    self.assertIs(is_laying(web, order, identity), True)
                    hues = hueing_of(web, span, bounds, identity)
                    self.gives(hues, row_hueing, places, span, bounds)
                    self.assertIs(keeps_bounds(web, span, bounds, hues), True)
                    self.assertEqual(hues, [told_hue(span, bounds, walk) for walk in all_walks(web, span)])
                for places in (len(order) + 1, len(order) + 2, 2000):
                    self.refused(RowTooLong(len(order)), row_hueing, places, span, bounds)

    def test_ordinary_answers(self):
        self.gives([0], row_hueing, 3, 3, [2])
        self.gives([0, 0, 0], row_hueing, bounds=(3,), span=2, places=3)
        self.gives([1, 0, 0], row_hueing, 3, 2, [2, 2])
        self.gives([], row_hueing, 0, 2, [1])
        self.gives([], row_hueing, 2, 6, [1])

    def test_there_is_no_hueing_of_one_place_more(self):
        for span, bounds in ((2, [3]), (2, [2, 2]), (3, [2]), (3, [1, 1]), (3, [3]), (4, [2])):
            limit = row_limit(span, bounds)
            self.assertIsNotNone(find_hueing(row_web(limit), span, bounds))
            self.assertIsNone(find_hueing(row_web(limit + 1), span, bounds))

    def test_too_many_walks_go_behind_the_row_limit(self):
        self.gives([0] * 1953, row_hueing, 63, 2, [200])
        self.refused(TooMany(2000), row_hueing, 64, 2, [200])
        self.refused(TooMany(2000), row_hueing, 200, 2, [10, 20])
        self.refused(RowTooLong(200), row_hueing, 201, 2, [200])
        self.refused(RowTooLong(63), row_hueing, 64, 2, [63])
        self.gives([0] * 1771, row_hueing, 23, 3, [199])
        self.refused(TooMany(2000), row_hueing, 24, 3, [199])
        self.refused(RowTooLong(23), row_hueing, 24, 3, [22])
        self.assertEqual(len(row_hueing(16, 4, [198])), 1820)
        self.refused(TooMany(2000), row_hueing, 17, 4, [198])
        # A row of 15 places has 3003 walks of 5 places and 5005 of 6.
        self.refused(TooMany(2000), row_hueing, 15, 5, [197])
        self.refused(TooMany(2000), row_hueing, 15, 6, [196])

    def test_the_order_of_the_checks(self):
        for places in NOT_INTEGERS + (-1, 2001, HUGE, -HUGE):
            self.refused(BadNumber(), row_hueing, places, 3, None)
        for span in NOT_SPANS:
            self.refused(BadNumber(), row_hueing, 2000, span, None)
        for bounds, bad_at in WRONG_BOUNDS:
            self.refused(BadBounds(bad_at), row_hueing, 2000, 3, bounds)
        for span, bounds in TOWERS_OF_MORE:
            self.refused(TooMany(200), row_hueing, 2000, span, bounds)
            self.refused(TooMany(200), row_hueing, 0, span, bounds)


class RowsInWebsTest(ProgramTest):

    def test_all_rows_of_small_webs(self):
        for web in SMALL_WEBS:
            for many in range(4):
                for places in product(range(-1, web.places + 1), repeat=many):
                    expected = is_row_by_trial(web, places)
                    self.assertIs(is_row_in(web, places), expected)
                    self.assertIs(is_row_in(web, list(places)), expected)

    def test_ordinary_answers(self):
        self.gives(True, is_row_in, row_web(4), [0, 1, 3])
        self.gives(False, is_row_in, row_web(4), [0, 3, 1])
        self.gives(True, is_row_in, places=(3, 1, 0), web=row_web(4).turned())
        self.gives(False, is_row_in, path_web(3), [0, 1, 2])
        self.gives(False, is_row_in, ring_web(3), (0, 1, 2))
        self.gives(True, is_row_in, two_way_web(3, [(0, 1), (0, 2), (1, 2)]), [2, 0, 1])

    def test_the_empty_sequence_and_one_place(self):
        for web in (Web(0), Web(3), ring_web(1), row_web(5)):
            self.gives(True, is_row_in, web, [])
            self.gives(True, is_row_in, web, ())
            for place in range(web.places):
                self.gives(True, is_row_in, web, [place])
            self.gives(False, is_row_in, web, [web.places])

    def test_places_are_unlike(self):
        self.gives(False, is_row_in, ring_web(1), [0, 0])
        self.gives(False, is_row_in, dense_web(3), [0, 1, 0])
        self.gives(True, is_row_in, dense_web(3), (2, 0, 1))

    def test_long_sequences(self):
        self.gives(True, is_row_in, row_web(63), list(range(63)))
        self.gives(False, is_row_in, row_web(63), list(range(64)))
        self.gives(False, is_row_in, path_web(2000), list(range(2000)))
        self.gives(False, is_row_in, row_web(63), [0] * 20000)

    def test_values_of_every_kind(self):
        self.judges_not(ODD_VALUES, is_row_in, row_web(3))
        self.judges_not(spoiled([0, 1, 2]), is_row_in, row_web(3))
        self.judges_not(spoiled((1,)), is_row_in, row_web(2))
        for web in NOT_WEBS:
            self.refused(BadWeb(None), is_row_in, web, None)
            self.refused(BadWeb(None), longest_row, web)

    def test_longest_rows(self):
        for web in SMALL_WEBS:
            self.gives(longest_row_by_trial(web), longest_row, web)

    def test_longest_rows_of_10_places(self):
        self.gives(list(range(10)), longest_row, row_web(10))
        self.gives(list(range(9, -1, -1)), longest_row, web=row_web(10).turned())
        self.gives(list(range(10)), longest_row, dense_web(10))
        self.gives([0, 1], longest_row, ring_web(10))
        self.gives([0], longest_row, Web(10))
        self.gives([0], longest_row, Web(10, [(i, i) for i in range(10)]))
        self.gives([8, 9], longest_row, Web(10, [(9, 9), (8, 9)]))
        # Several longest ones: the least as a sequence.
        self.gives([0, 4, 9], longest_row, Web(10, [(1, 2), (2, 3), (1, 3), (0, 9), (0, 4), (4, 9)]))
        self.gives([1, 0, 5], longest_row, Web(10, [(1, 0), (0, 5), (1, 5), (2, 3), (3, 4), (2, 4)]))
        web = two_way_web(10, [(i, j) for j in range(10) for i in range(j) if (i, j) != (0, 1)])
        self.gives([0, 2, 3, 4, 5, 6, 7, 8, 9], longest_row, web)

    def test_the_empty_row(self):
        self.gives([], longest_row, Web(0))
        self.gives([0], longest_row, Web(1))
        self.gives([0], longest_row, ring_web(1))

    def test_more_than_10_places(self):
        for web in (Web(11), row_web(11), path_web(2000)):
            self.refused(TooMany(10), longest_row, web)

    def test_a_row_of_more_places_than_the_limit_cannot_be_hued(self):
        web = Web(5, [(4, 2), (4, 1), (2, 1), (1, 3), (2, 3), (4, 3)])
        self.gives([4, 2, 1, 3], longest_row, web)
        self.assertEqual(row_limit(3, [2]), 3)
        self.assertIsNone(find_hueing(web, 3, [2]))
        self.assertIsNotNone(find_hueing(web, 3, [3]))


class ForcedRoadTest(ProgramTest):

    def test_all_hueings_of_short_rows(self):
        for span, bounds in ((2, [2]), (2, [1, 2]), (2, [2, 1]), (3, [2]), (3, [1, 1]), (4, [1]), (3, [1])):
            places = row_limit(span, bounds) + 1
            web = row_web(places)
            for hues in product(range(len(bounds)), repeat=len(all_walks(web, span))):
                expected = long_road(web, span, bounds, hues)
                self.assertIsNotNone(expected)
                self.assertEqual(shown(forced_road(span, bounds, hues)), shown(expected))
                self.assertEqual(shown(forced_road(span, tuple(bounds), list(hues))), shown(expected))

    def test_ordinary_answers(self):
        self.gives((0, (0, 1, 2, 3)), forced_road, 3, [2], [0, 0, 0, 0])
        self.gives((0, (0, 1)), forced_road, hues=(0,), bounds=(1,), span=2)
        self.gives((1, (0, 1)), forced_road, 2, [1, 1], [1])
        for span in range(2, 7):
            bounds = [2, 2]
            places = row_limit(span, bounds) + 1
            walks = all_walks(row_web(places), span)
            hues = [sum(walk) % 2 for walk in walks]
            self.gives(long_road(row_web(places), span, bounds, hues), forced_road, span, bounds, hues)

    def test_the_row_has_too_many_walks(self):
        self.gives((0, tuple(range(63))), forced_road, 2, [62], [0] * 1953)
        for hues in (None, [], [True]):
            self.refused(TooMany(2000), forced_road, 2, [63], hues)
            self.refused(TooMany(2000), forced_road, 2, [200] * 8, hues)
            self.refused(TooMany(2000), forced_road, 2, [8, 8], hues)
            self.refused(TooMany(2000), forced_road, 2, [50, 40], hues)
            self.refused(TooMany(2000), forced_road, 3, [22], hues)
            self.refused(TooMany(2000), forced_road, 3, [200] * 3, hues)
            self.refused(TooMany(2000), forced_road, 4, [198], hues)
        self.gives((0, tuple(range(23))), forced_road, 3, [21], [0] * 1771)
        self.gives((0, tuple(range(16))), forced_road, 4, [13], [0] * 1820)
        self.refused(TooMany(2000), forced_road, 4, [14], [0] * 2380)

    def test_the_errors_of_the_row_limit(self):
        for span in NOT_SPANS:
            self.refused(BadNumber(), forced_road, span, None, None)
        for bounds, bad_at in WRONG_BOUNDS:
            self.refused(BadBounds(bad_at), forced_road, 3, bounds, None)
        for span, bounds in ((3, [2] * 5), (3, [200] * 4), (4, [2, 7]), (4, [199]), (5, [2, 2, 2]), (6, [197])):
            self.refused(TooMany(200), forced_road, span, bounds, None)

    def test_wrong_hues(self):
        for hues in NOT_SEQUENCES + ([], [0] * 3, [0] * 5, (None,) * 5):
            self.refused(BadHueing(None), forced_road, 3, [2], hues)
        for hue in NOT_INTEGERS + (-1, 1, HUGE, -HUGE):
            self.refused(BadHueing(2), forced_road, 3, [2], [0, 0, hue, None])
        self.refused(BadHueing(4), forced_road, 2, [2, 2], [0, 1, 0, 1, 2, 2, 0, 0, 0, 0])

    def test_equal_calls_with_others_in_between(self):
        def answers():
            return shown([
                row_limit(4, [2, 2]), row_hueing(4, 3, [2, 2]), longest_row(row_web(5)), forced_road(3, [2], [0] * 4),
                is_row_in(row_web(3), [0, 2]),
            ])
        before = answers()
        for web in SMALL_WEBS[::9]:
            longest_row(web)
        row_hueing(5, 2, [3, 2])
        hub_web(3, 4)
        self.assertEqual(answers(), before)

    def test_a_later_change(self):
        hues = [0, 0, 0, 0]
        bounds = [2]
        self.gives((0, (0, 1, 2, 3)), forced_road, 3, bounds, hues)
        row_hueing(3, 3, bounds).clear()
        longest_row(row_web(3)).clear()
        self.gives([0], row_hueing, 3, 3, bounds)
        self.gives([0, 1, 2], longest_row, row_web(3))
        bounds[0] = 1
        self.refused(BadHueing(None), forced_road, 3, bounds, hues)


if __name__ == "__main__":
    unittest.main()
