"""Line webs and their walks: points 3, 4, 5 and 23, and the first functions of huewalks.linewebs."""

import unittest

from huewalks.errors import BadNumber, BadWalk, BadWeb, TooMany
from huewalks.linewebs import line_meaning, line_walk, line_web, line_web_times, web_walk
from huewalks.orders import Order
from huewalks.roads import depths, keeps_bounds
from huewalks.walks import all_walks, is_hueing, walk_number, walk_rank
from huewalks.webs import Web, beside_web, path_web, ring_web, row_web, two_way_web
from helpers import (
    HUGE, NOT_INTEGERS, NOT_SEQUENCES, NOT_WEBS, ProgramTest, all_small_webs, dense_web, hub_web, shown,
)

SMALL_WEBS = all_small_webs(2) + all_small_webs(3)[20::37] + [row_web(5), ring_web(4), path_web(5), dense_web(3)]

NOT_TIMES = NOT_INTEGERS + (-1, 5, HUGE, -HUGE)


def line_web_by_trial(web):
    arrows = web.arrows
    return Web(len(arrows), [
        (i, j) for i, (_, end) in enumerate(arrows) for j, (start, _) in enumerate(arrows) if end == start
    ])


class LineWebTest(ProgramTest):

    def test_small_webs(self):
        for web in SMALL_WEBS:
            self.gives(line_web_by_trial(web), line_web, web)

    def test_ordinary_answers(self):
        self.gives(Web(3, [(0, 2)]), line_web, row_web(3))
        self.gives(path_web(4), line_web, web=path_web(5))
        self.gives(ring_web(6), line_web, Web(6, [(5, 0), (0, 1), (1, 2), (2, 3), (3, 4), (4, 5)]))

    def test_webs_without_arrows(self):
        for web in (Web(0), Web(1), Web(2000), path_web(1)):
            self.gives(Web(0), line_web, web)
            for times in range(1, 5):
                self.gives(Web(0), line_web_times, web, times)

    def test_loops_rings_and_two_way_arrows(self):
        self.gives(ring_web(1), line_web, ring_web(1))
        self.gives(Web(2, [(0, 1), (1, 0)]), line_web, two_way_web(2, [(0, 1)]))
        self.gives(Web(2, [(0, 0), (0, 1)]), line_web, Web(2, [(0, 0), (0, 1)]))
        self.gives(Web(3, [(0, 1), (1, 2), (2, 0)]), line_web, ring_web(3))
        self.gives(Web(4, [(0, 0), (0, 1), (1, 2), (1, 3), (2, 0), (2, 1), (3, 2), (3, 3)]), line_web, dense_web(2))

    def test_exactly_2000_and_2001_arrows_of_the_line_web(self):
        self.assertEqual(len(line_web(hub_web(50, 40)).arrows), 2000)
        self.assertEqual(len(line_web_times(hub_web(50, 40, hubs=2), 2).arrows), 2000)
        self.assertEqual(len(line_web_times(hub_web(50, 40, hubs=4), 4).arrows), 2000)
        self.gives(Web(0), line_web_times, hub_web(50, 40), 3)
        self.refused(TooMany(2000), line_web, hub_web(69, 29))
        for times in range(1, 5):
            self.refused(TooMany(2000), line_web_times, hub_web(69, 29), times)
            self.refused(TooMany(2000), line_web_times, hub_web(69, 29, hubs=times), times)
            self.refused(TooMany(2000), line_meaning, hub_web(69, 29, hubs=times), times, 0)
        self.assertEqual(line_web(hub_web(69, 29, hubs=2)), line_web_by_trial(hub_web(69, 29, hubs=2)))

    def test_2000_places_of_the_line_web(self):
        self.gives(Web(2000), line_web, Web(2000, [(i // 1000, 1000 + i % 1000) for i in range(2000)]))
        self.gives(path_web(1999), line_web, path_web(2000))
        self.gives(path_web(1996), line_web_times, path_web(2000), 4)
        self.assertEqual(line_web_times(ring_web(2000), 4).places, 2000)

    def test_0_to_4_times(self):
        for web in SMALL_WEBS:
            expected = web
            for times in range(5):
                self.gives(expected, line_web_times, web, times)
                self.gives(expected, line_web_times, times=times, web=web)
                if times < 4:
                    expected = line_web_by_trial(expected)
        self.gives(hub_web(69, 29), line_web_times, hub_web(69, 29), 0)

    def test_places_and_arrows_stand_for_walks(self):
        for web in SMALL_WEBS:
            for times in range(4):
                if walk_number(web, times + 2) > 300:
                    continue
                lined = line_web_times(web, times)
                walks = all_walks(web, times + 1)
                self.assertEqual(lined.places, len(walks))
                steps = [walks[u] + walks[v][-1:] for u, v in lined]
                self.assertEqual(steps, all_walks(web, times + 2))

    def test_one_list_is_a_hueing_of_both(self):
        web = Web(4, [(0, 1), (1, 0), (1, 2), (2, 3), (3, 1)])
        for span in range(2, 7):
            lined = line_web_times(web, span - 2)
            hues = [i % 3 for i in range(len(all_walks(web, span)))]
            self.assertIs(is_hueing(lined, 2, 3, hues), True)
            for bounds in ([2, 2, 2], [4, 3, 4], [9, 9, 9]):
                self.assertIs(keeps_bounds(lined, 2, bounds, hues), keeps_bounds(web, span, bounds, hues))
            self.assertEqual(depths(lined, 2, hues, 1, 9), depths(web, span, hues, 1, 9))

    def test_wrong_arguments(self):
        for web in NOT_WEBS:
            self.refused(BadWeb(None), line_web, web)
            self.refused(BadWeb(None), line_web_times, web, None)
            self.refused(BadWeb(None), line_meaning, web, None, None)
        for times in NOT_TIMES:
            self.refused(BadNumber(), line_web_times, hub_web(69, 29), times)
            self.refused(BadNumber(), line_meaning, hub_web(69, 29), times, None)


class LineMeaningTest(ProgramTest):

    def test_small_webs(self):
        for web in SMALL_WEBS:
            for times in range(4):
                if walk_number(web, times + 2) > 300:
                    continue
                for place, walk in enumerate(all_walks(web, times + 1)):
                    self.assertEqual(shown(line_meaning(web, times, place)), shown(walk))

    def test_ordinary_answers(self):
        self.gives((0, 1), line_meaning, path_web(3), 1, 0)
        self.gives((2,), line_meaning, place=2, times=0, web=path_web(3))
        self.gives((1999,), line_meaning, Web(2000), 0, 1999)
        self.gives((0, 0, 0, 0, 0), line_meaning, ring_web(1), 4, 0)
        self.gives((1995, 1996, 1997, 1998, 1999), line_meaning, path_web(2000), 4, 1995)

    def test_wrong_places(self):
        for times, many in ((0, 3), (1, 3), (2, 1), (3, 0), (4, 0)):
            for place in NOT_INTEGERS + (-1, many, many + 1, HUGE, -HUGE):
                self.refused(BadNumber(), line_meaning, row_web(3), times, place)
        self.refused(BadNumber(), line_meaning, Web(0), 0, 0)

    def test_the_limit_goes_before_the_place(self):
        for place in (None, -1, 0, True, HUGE):
            for times in range(1, 5):
                self.refused(TooMany(2000), line_meaning, hub_web(69, 29), times, place)
        # The arrows of the last web are counted too, though they are not asked.
        self.refused(TooMany(2000), line_meaning, hub_web(69, 29, hubs=3), 3, 0)
        self.gives((0, 98), line_meaning, hub_web(69, 29, hubs=2), 1, 0)


class LineWalkTest(ProgramTest):

    def test_all_walks_of_small_webs(self):
        for web in SMALL_WEBS:
            lined = line_web(web)
            for places in (2, 3, 4):
                numbers = all_walks(lined, places - 1)
                for walk, told in zip(all_walks(web, places), numbers):
                    self.gives(told, line_walk, web, walk)
                    self.gives(told, line_walk, web, list(walk))
                    self.gives(walk, web_walk, web, told)
                    self.gives(walk, web_walk, web, list(told))

    def test_by_name(self):
        self.gives((0, 3, 5), line_walk, walk=[0, 1, 2, 3], web=row_web(4))
        self.gives((0, 1, 2, 3), web_walk, numbers=[0, 3, 5], web=row_web(4))
        self.gives((0, 1), web_walk, row_web(4), (0,))

    def test_2_to_300_places(self):
        self.gives(tuple(range(299)), line_walk, path_web(2000), tuple(range(300)))
        self.gives((0,) * 299, line_walk, ring_web(1), [0] * 300)
        self.gives((0,) * 300, web_walk, ring_web(1), [0] * 299)
        for walk in ((), [0], list(range(301)), [0] * 301, [None], [None] * 301):
            self.refused(BadWalk(None), line_walk, path_web(2000), walk)
        for numbers in ((), [], list(range(300)), [0] * 300, [None] * 300):
            self.refused(BadWalk(None), web_walk, path_web(2000), numbers)

    def test_no_limit_is_asked(self):
        web = hub_web(69, 29)
        self.gives((0, 97), line_walk, web, (0, 98, 97))
        self.gives((0, 98, 97), web_walk, web, (0, 97))
        self.assertEqual(walk_rank(web, (0, 98, 97)), 28)
        self.gives((45, 45), line_walk, dense_web(44), [1, 1, 1])

    def test_wrong_walks(self):
        for walk in NOT_SEQUENCES:
            self.refused(BadWalk(None), line_walk, ring_web(2), walk)
        for place in NOT_INTEGERS + (-1, 3, HUGE, -HUGE):
            self.refused(BadWalk(0), line_walk, ring_web(3), [place, 1])
            self.refused(BadWalk(2), line_walk, ring_web(3), (0, 1, place, None, 0))
        self.refused(BadWalk(1), line_walk, ring_web(3), [0, 0])
        self.refused(BadWalk(2), line_walk, ring_web(3), [0, 1, 0, 3])
        self.refused(BadWalk(1), line_walk, path_web(3), (1, 0))
        self.refused(BadWalk(0), line_walk, Web(0), [0, 0])

    def test_wrong_numbers(self):
        for numbers in NOT_SEQUENCES:
            self.refused(BadWalk(None), web_walk, ring_web(2), numbers)
        for number in NOT_INTEGERS + (-1, 3, HUGE, -HUGE):
            self.refused(BadWalk(0), web_walk, ring_web(3), [number])
            self.refused(BadWalk(2), web_walk, ring_web(3), (0, 1, number, 0))
        self.refused(BadWalk(1), web_walk, ring_web(3), [0, 0])
        self.refused(BadWalk(2), web_walk, ring_web(3), [0, 1, 1, 3])
        self.refused(BadWalk(1), web_walk, path_web(3), (1, 0, None))
        self.refused(BadWalk(0), web_walk, Web(2), [0])

    def test_wrong_webs(self):
        for web in NOT_WEBS:
            self.refused(BadWeb(None), line_walk, web, None)
            self.refused(BadWeb(None), web_walk, web, None)
        self.refused(BadWeb(None), line_web, Order(2))

    def test_equal_calls_with_others_in_between(self):
        web = beside_web(ring_web(3), path_web(3))

        def answers():
            return shown([
                line_web(web), line_web_times(web, 3), line_meaning(web, 2, 1), line_walk(web, [0, 1, 2]),
                web_walk(web, (0, 1, 2)),
            ])
        before = answers()
        line_web_times(row_web(6), 4)
        web_walk(row_web(6), [0, 5])
        self.assertEqual(answers(), before)


if __name__ == "__main__":
    unittest.main()
