"""Hueings that keep the bounds: points 5 and 14 and the last functions of huewalks.roads."""

import unittest
from itertools import product

from huewalks.errors import BadBounds, BadHueing, BadNumber, BadWeb, TooMany
from huewalks.roads import find_hueing, keeps_bounds, least_road, long_road
from huewalks.walks import all_walks, hue_table
from huewalks.webs import Web, beside_web, path_web, ring_web, row_web, two_way_web
from helpers import (
    HUGE, NOT_INTEGERS, NOT_SEQUENCES, NOT_SPANS, NOT_WEBS, WRONG_BOUNDS, ProgramTest, all_small_webs, hub_web, shown,
)

ROW = row_web(4)

SMALL_WEBS = all_small_webs(2) + all_small_webs(3)[20::19] + [row_web(4), ring_web(3), path_web(4)]

SMALL_BOUNDS = ([1], [2], [3], [1, 1], [2, 1], [1, 3], [2, 2], [1, 1, 2])


def long_road_by_trial(web, span, bounds, hues):
    """The answer of long_road, found among all walks."""
    table = hue_table(web, span, hues)
    for hue, bound in enumerate(bounds):
        for walk in all_walks(web, span - 1 + bound):
            if all(table[walk[i:i + span]] == hue for i in range(bound)):
                return (hue, walk)
    return None


class LongRoadTest(ProgramTest):

    def test_small_webs(self):
        for web in SMALL_WEBS:
            for span, bounds in product((2, 3), SMALL_BOUNDS):
                walks = len(all_walks(web, span))
                for k in range(3):
                    hues = [(i * k + i // 2) % len(bounds) for i in range(walks)]
                    expected = long_road_by_trial(web, span, bounds, hues)
                    self.assertEqual(shown(long_road(web, span, bounds, hues)), shown(expected))
                    self.assertIs(keeps_bounds(web, span, bounds, hues), expected is None)

    def test_the_example(self):
        self.gives((0, (0, 1, 2, 3)), long_road, row_web(4), 3, [2], [0, 0, 0, 0])

    def test_by_name_as_lists_and_as_tuples(self):
        for hues, bounds in (([0, 1, 0, 0], [2, 2]), ((0, 1, 0, 0), (2, 2))):
            self.gives((0, (0, 1, 2, 3)), long_road, hues=hues, bounds=bounds, span=3, web=ROW)
            self.gives(False, keeps_bounds, hues=hues, bounds=bounds, span=3, web=ROW)
        self.gives(None, long_road, hues=(0, 1, 0, 0), bounds=[3, 2], span=3, web=ROW)
        self.gives(True, keeps_bounds, hues=(0, 1, 0, 0), bounds=[3, 2], span=3, web=ROW)

    def test_the_least_hue_goes_before_the_least_road(self):
        self.gives((1, (3, 4, 5)), long_road, path_web(6), 2, [3, 2, 2], [2, 2, 0, 1, 1])
        self.gives((1, (3, 4, 5)), long_road, path_web(6), 2, (3, 2, 1), [2, 2, 0, 1, 1])
        self.gives((2, (0, 1)), long_road, path_web(6), 2, [3, 3, 1], [2, 2, 0, 1, 1])

    def test_a_longer_road_and_its_least_part(self):
        self.gives((0, (0, 1, 2)), long_road, path_web(9), 2, [2], [0] * 8)
        self.gives((0, (0, 1, 0, 1)), long_road, ring_web(2), 2, [3], [0, 0])
        self.gives((0, (1, 2, 3, 4, 5)), long_road, path_web(9), 3, [3, 5], [1, 0, 0, 0, 0, 0, 0])

    def test_bounds_of_1_and_of_200(self):
        self.gives((1, (1, 2, 3)), long_road, ROW, 3, [200, 1], [0, 0, 0, 1])
        self.gives(None, long_road, ROW, 3, [200, 1], [0, 0, 0, 0])
        self.gives(True, keeps_bounds, path_web(200), 2, [200], [0] * 199)
        self.gives((0, tuple(range(201))), long_road, path_web(201), 2, [200], [0] * 200)
        self.gives((0, tuple(range(201))), long_road, path_web(2000), 2, [200], [0] * 1999)
        self.gives((7, (0,) * 205), long_road, ring_web(1), 6, [1] * 7 + [200], [7])
        self.gives(None, long_road, path_web(1000), 6, [200] * 8, [i // 199 for i in range(995)])
        self.gives(False, keeps_bounds, path_web(1000), 6, [200] * 2 + [199] + [200] * 5,
                   [i // 199 for i in range(995)])

    def test_1_and_8_bounds(self):
        self.gives(True, keeps_bounds, row_web(5), 2, [1] * 7 + [5], [7] * 10)
        self.gives((7, (0, 1, 2, 3, 4)), long_road, row_web(5), 2, [1] * 7 + [4], [7] * 10)
        self.gives((6, (1, 2)), long_road, path_web(3), 2, [1] * 8, [7, 6])
        self.gives(True, keeps_bounds, path_web(3), 2, [3], [0, 0])

    def test_webs_without_places_and_without_walks(self):
        for web in (Web(0), Web(5), path_web(5)):
            self.gives(None, long_road, web, 6, [1], [])
            self.gives(True, keeps_bounds, web, 6, [1] * 8, ())

    def test_a_loop_or_a_ring_of_one_hue_keeps_no_bounds(self):
        web = beside_web(path_web(3), ring_web(1))
        for bounds in ([200] * 8, [1], [3, 3]):
            self.gives(False, keeps_bounds, web, 2, bounds, [0, 0, 0])
            self.gives(False, keeps_bounds, ring_web(5), 3, bounds, [0] * 5)
        self.gives((1, (3, 3, 3, 3)), long_road, web, 2, [3, 3], [0, 0, 1])
        self.gives(True, keeps_bounds, ring_web(5), 3, [200, 200], [0, 0, 0, 0, 1])
        self.gives(True, keeps_bounds, two_way_web(2, [(0, 1)]), 2, [2, 2], [0, 1])

    def test_the_order_of_the_checks(self):
        for call in (keeps_bounds, long_road):
            for web in NOT_WEBS:
                self.refused(BadWeb(None), call, web, 1, [], None)
            for span in NOT_SPANS:
                self.refused(BadNumber(), call, hub_web(69, 29), span, [], None)
            for span in (3, 6):
                self.refused(TooMany(2000), call, hub_web(69, 29), span, [], None)
            for bounds, bad_at in WRONG_BOUNDS:
                self.refused(BadBounds(bad_at), call, ROW, 3, bounds, None)
            for hues in NOT_SEQUENCES + ([], [0] * 3, [0] * 5, (None,) * 5, (9,) * 3):
                self.refused(BadHueing(None), call, ROW, 3, [2], hues)
            for hue in NOT_INTEGERS + (-1, 2, HUGE, -HUGE):
                self.refused(BadHueing(0), call, ROW, 3, [2, 2], [hue, 0, None, 0])
                self.refused(BadHueing(2), call, ROW, 3, (200, 200), (0, 1, hue, None))
            for many in range(1, 9):
                self.refused(BadHueing(3), call, ROW, 3, [200] * many, [0, 0, many - 1, many])

    def test_a_later_change(self):
        hues = [0, 0, 0]
        bounds = [3, 1]
        self.gives((0, (0, 1, 2, 3)), long_road, path_web(4), 2, bounds, hues)
        bounds[0] = 4
        self.gives(None, long_road, path_web(4), 2, bounds, hues)
        hues[2] = 1
        self.gives((1, (2, 3)), long_road, path_web(4), 2, bounds, hues)
        self.gives((0, (0, 1, 2, 0, 1)), long_road, ring_web(3), 2, bounds, [0, 0, 0])
        self.gives((1, (2, 3)), long_road, path_web(4), 2, bounds, hues)


class FindHueingTest(ProgramTest):

    def test_small_webs(self):
        for web in SMALL_WEBS:
            for span, bounds in product((2, 3), SMALL_BOUNDS):
                walks = len(all_walks(web, span))
                if walks > 10 or len(bounds) ** walks > 1024:
                    continue
                kept = [list(hues) for hues in product(range(len(bounds)), repeat=walks)
                        if long_road_by_trial(web, span, bounds, hues) is None]
                expected = kept[0] if kept else None
                self.assertEqual(shown(find_hueing(web, span, bounds)), shown(expected))

    def test_ordinary_answers(self):
        self.gives([0, 0, 0, 1], find_hueing, row_web(4), 3, [2, 2])
        self.gives([0, 0, 0, 0], find_hueing, row_web(4), 3, [3])
        self.gives(None, find_hueing, row_web(4), 3, [2])
        self.gives([0, 1, 0, 1, 0, 1], find_hueing, path_web(7), 2, (2, 2))
        self.gives([0, 0, 1], find_hueing, bounds=[3, 3], span=2, web=ring_web(3))
        self.gives([1, 1, 1], find_hueing, path_web(4), 2, [1, 4])

    def test_the_row_limit(self):
        for places, kept in ((4, True), (5, False)):
            answer = find_hueing(row_web(places), 2, [2, 2])
            self.assertIs(answer is not None, kept)
        self.assertIsNotNone(find_hueing(row_web(3), 3, [2]))

    def test_webs_without_walks(self):
        for web in (Web(0), Web(5), path_web(5)):
            self.gives([], find_hueing, web, 6, [1])
            self.gives([], find_hueing, web, 6, (200,) * 8)

    def test_exactly_10_and_11_walks(self):
        self.gives([0] * 10, find_hueing, path_web(11), 2, [11])
        self.gives(None, find_hueing, path_web(11), 2, [10])
        self.gives([0] * 10, find_hueing, Web(2000, [(i, 1999) for i in range(10)]), 2, [200, 1])
        self.refused(TooMany(10), find_hueing, path_web(12), 2, [11])
        self.refused(TooMany(10), find_hueing, path_web(16), 6, (200,))
        self.gives([0] * 10, find_hueing, path_web(15), 6, (200,))

    def test_exactly_1024_and_more_hueings(self):
        self.gives([0, 1] * 5, find_hueing, path_web(11), 2, [2, 2])
        self.gives(None, find_hueing, path_web(6), 2, [1, 1, 1, 1])
        self.gives([3] * 5, find_hueing, path_web(6), 2, [1, 1, 1, 6])
        self.gives([0, 0, 0], find_hueing, path_web(4), 2, [4] * 8)
        self.refused(TooMany(1024), find_hueing, path_web(7), 2, [1, 1, 1, 6])
        self.refused(TooMany(1024), find_hueing, path_web(8), 2, [2, 2, 2])
        self.refused(TooMany(1024), find_hueing, path_web(5), 2, [200] * 8)

    def test_the_limits_hold_where_the_answer_is_plain(self):
        self.refused(TooMany(10), find_hueing, path_web(12), 2, [1])
        self.refused(TooMany(10), find_hueing, Web(11, [(i, i) for i in range(11)]), 2, [200])
        self.refused(TooMany(10), find_hueing, path_web(12), 2, [200] * 8)
        self.refused(TooMany(1024), find_hueing, Web(4, [(i, i) for i in range(4)]), 2, [200] * 8)
        self.refused(TooMany(1024), find_hueing, path_web(11), 2, [1, 1, 1])

    def test_loops_and_rings(self):
        self.gives(None, find_hueing, ring_web(1), 6, [200] * 8)
        self.gives(None, find_hueing, Web(10, [(i, i) for i in range(10)]), 2, [200, 200])
        self.gives([0] * 9 + [1], find_hueing, ring_web(10), 6, [200, 200])
        self.gives([0, 1], find_hueing, two_way_web(2, [(0, 1)]), 2, [2, 2])
        self.gives(None, find_hueing, two_way_web(2, [(0, 1)]), 2, [200])

    def test_the_order_of_the_checks(self):
        for web in NOT_WEBS:
            self.refused(BadWeb(None), find_hueing, web, 1, [])
        for span in NOT_SPANS:
            self.refused(BadNumber(), find_hueing, hub_web(69, 29), span, [])
        for span in (3, 6):
            self.refused(TooMany(2000), find_hueing, hub_web(69, 29), span, [])
        for bounds, bad_at in WRONG_BOUNDS:
            self.refused(BadBounds(bad_at), find_hueing, path_web(12), 2, bounds)

    def test_a_later_change(self):
        web = path_web(4)
        bounds = [2, 2]
        answer = find_hueing(web, 2, bounds)
        answer[0] = 1
        self.gives([0, 0], find_hueing, path_web(4), 3, [3])
        self.gives([0, 1, 0], find_hueing, web, 2, bounds)
        bounds[0] = 3
        self.gives([0, 0, 1], find_hueing, web, 2, bounds)

    def test_what_is_found_keeps_the_bounds(self):
        for web in (row_web(5), ring_web(7), two_way_web(3, [(0, 1), (1, 2)])):
            hues = find_hueing(web, 2, [3, 2])
            self.assertIs(keeps_bounds(web, 2, [3, 2], hues), True)
            self.assertIsNone(least_road(web, 2, hues, 0, 3))
            self.assertIsNone(least_road(web, 2, hues, 1, 2))


if __name__ == "__main__":
    unittest.main()
