"""Roads of one hue: points 5, 6 and 13 and the first functions of huewalks.roads."""

import unittest
from itertools import product

from huewalks.errors import BadHueing, BadNumber, BadWeb, TooMany
from huewalks.roads import depths, heads, is_road, least_road, longest
from huewalks.walks import all_walks, hue_table
from huewalks.webs import Web, path_web, ring_web, row_web, two_way_web
from helpers import HUGE, NOT_INTEGERS, NOT_SEQUENCES, NOT_SPANS, NOT_WEBS, ProgramTest, all_small_webs, hub_web, shown

NOT_HUES = NOT_INTEGERS + (-1, 8, HUGE, -HUGE)
NOT_STEPS = NOT_INTEGERS + (-1, 201, HUGE, -HUGE)

ROW = row_web(4)

SMALL_WEBS = all_small_webs(2) + all_small_webs(3)[20::37] + [row_web(4), ring_web(3), path_web(4)]

LONG_PATH = path_web(2000)


def roads_by_trial(web, span, hues, hue, steps):
    """All roads of the hue with exactly this many steps, ascending."""
    table = hue_table(web, span, hues)
    roads = []
    for walk in all_walks(web, span - 1 + steps):
        if all(table[walk[i:i + span]] == hue for i in range(steps)):
            roads.append(walk)
    return roads


def small_questions(webs):
    """Small webs with spans and with some hueings of up to 3 hues for each."""
    for web in webs:
        for span in (2, 3):
            walks = len(all_walks(web, span))
            for k in range(4):
                yield web, span, [(i * k + i // 2 + k // 3) % 3 for i in range(walks)]


class IsRoadTest(ProgramTest):

    def test_all_small_values(self):
        for web, span, hues in small_questions([ring_web(2), Web(2, [(0, 0), (0, 1), (1, 0)]), row_web(3)]):
            for hue in range(3):
                roads = [road for steps in range(3) for road in roads_by_trial(web, span, hues, hue, steps)]
                for length in range(span + 2):
                    for road in product(range(-1, web.places + 1), repeat=length):
                        self.assertIs(is_road(web, span, hues, hue, road), road in roads)
                        self.assertIs(is_road(web, span, hues, hue, list(road)), road in roads)

    def test_each_walk_of_one_place_fewer_is_a_road_of_each_hue(self):
        for hue in range(8):
            self.gives(True, is_road, ROW, 3, [0, 0, 0, 0], hue, (1, 3))
            self.gives(True, is_road, Web(1), 2, [], hue, [0])
            self.gives(hue == 0, is_road, ROW, 3, [0, 0, 0, 0], hue, (0, 1, 3))

    def test_too_few_places(self):
        self.gives(False, is_road, ROW, 3, [0, 0, 0, 0], 0, [2])
        self.gives(False, is_road, ROW, 3, [0, 0, 0, 0], 0, [])
        self.gives(False, is_road, ROW, 2, [0] * 6, 0, ())
        self.gives(False, is_road, Web(0), 2, [], 0, [])
        self.gives(False, is_road, path_web(8), 6, [0, 0, 0], 0, [0, 1, 2, 3])
        self.gives(True, is_road, path_web(8), 6, [0, 0, 0], 0, [0, 1, 2, 3, 4])

    def test_one_other_window(self):
        hues = [1] * 1999
        hues[1000] = 2
        self.gives(True, is_road, LONG_PATH, 2, hues, 1, list(range(1001)))
        self.gives(False, is_road, LONG_PATH, 2, hues, 1, list(range(1002)))
        self.gives(True, is_road, LONG_PATH, 2, hues, 2, (1000, 1001))
        self.gives(True, is_road, LONG_PATH, 2, hues, 1, list(range(1001, 2000)))

    def test_a_ring_has_roads_without_a_limit(self):
        self.gives(True, is_road, ring_web(3), 3, [5, 5, 5], 5, [i % 3 for i in range(20000)])
        self.gives(False, is_road, ring_web(3), 3, [5, 5, 5], 5, [i % 3 for i in range(19999)] + [2])
        self.gives(True, is_road, ring_web(1), 6, [7], 7, (0,) * 500)
        self.gives(True, is_road, two_way_web(2, [(0, 1)]), 2, [3, 3], 3, [0, 1] * 300)

    def test_by_name(self):
        self.gives(True, is_road, road=[0, 1, 2, 3], hue=4, hues=(4, 4, 4, 4), span=3, web=ROW)
        self.gives(False, is_road, road=(0, 1, 2, 3), hue=3, hues=[4, 4, 4, 4], span=3, web=ROW)

    def test_any_value(self):
        for value in NOT_SEQUENCES + ([[0, 1, 2]], (0, 1, [2]), ((0,), (1,)), {0: 0, 1: 1}, [0, 2, 1], [0, 0]):
            self.gives(False, is_road, ROW, 3, [0, 0, 0, 0], 0, value)
        for member in NOT_INTEGERS + (-1, 4, HUGE, -HUGE):
            self.gives(False, is_road, ROW, 3, [0, 0, 0, 0], 0, [member, 1, 2])
            self.gives(False, is_road, ROW, 3, [0, 0, 0, 0], 0, (0, 2, member))
            self.gives(False, is_road, Web(1, [(0, 0)]), 2, [0], 0, [0, member])

    def test_a_bool_is_no_place(self):
        self.gives(True, is_road, ring_web(2), 2, [0, 0], 0, [0, 1, 0])
        self.gives(False, is_road, ring_web(2), 2, [0, 0], 0, [0, True, 0])
        self.gives(False, is_road, ring_web(2), 2, [0, 0], 0, [False, 1, 0])
        self.gives(False, is_road, Web(1), 2, [], 0, [False])

    def test_the_arguments_before_go_first(self):
        for web in NOT_WEBS:
            self.refused(BadWeb(None), is_road, web, 1, None, 8, None)
        for span in NOT_SPANS:
            self.refused(BadNumber(), is_road, hub_web(69, 29), span, None, 8, None)
        self.refused(TooMany(2000), is_road, hub_web(69, 29), 3, None, 8, None)
        for hues in NOT_SEQUENCES + ([0] * 3, (0,) * 5, [None] * 3):
            self.refused(BadHueing(None), is_road, ROW, 3, hues, 8, None)
        self.refused(BadHueing(1), is_road, ROW, 3, [7, 8, None, 0], 8, None)
        for hue in NOT_HUES:
            self.refused(BadNumber(), is_road, ROW, 3, [0] * 4, hue, None)
            self.refused(BadNumber(), is_road, ROW, 3, [0] * 4, hue, [0, 1])


class StepsTest(ProgramTest):
    """What depths, heads, longest and least_road have in common."""

    def all_refuse(self, error, *args):
        for call in (depths, heads, longest, least_road):
            self.refused(error, call, *args)

    def test_small_webs(self):
        for web, span, hues in small_questions(SMALL_WEBS):
            for hue in range(3):
                for cap in range(4):
                    self.check_steps(web, span, hues, hue, cap)

    def check_steps(self, web, span, hues, hue, cap):
        roads = [roads_by_trial(web, span, hues, hue, steps) for steps in range(cap + 1)]
        ends = [max([k for k in range(cap + 1) if walk in [road[k:] for road in roads[k]]]) for walk in roads[0]]
        begins = [max([k for k in range(cap + 1) if walk in [road[:span - 1] for road in roads[k]]])
                  for walk in roads[0]]
        least = roads[cap][0] if roads[cap] else None
        args = (web, span, hues, hue, cap)
        for expected, call in ((ends, depths), (begins, heads), (max(ends + [0]), longest), (least, least_road)):
            self.assertEqual(shown(call(*args)), shown(expected), (call, shown(args)))

    def test_ordinary_answers(self):
        hues = [0, 1, 0, 0]
        self.gives([0, 0, 0, 1, 0, 2], depths, ROW, 3, hues, 0, 200)
        self.gives([2, 1, 0, 1, 0, 0], heads, ROW, 3, hues, 0, 200)
        self.gives(2, longest, ROW, 3, hues, 0, 200)
        self.gives((0, 1, 2, 3), least_road, ROW, 3, hues, 0, 2)
        self.gives((0, 1, 2), least_road, ROW, 3, hues, 0, 1)
        self.gives((0, 1, 3), least_road, ROW, 3, hues, 1, 1)
        self.gives(None, least_road, ROW, 3, hues, 1, 2)
        self.gives(None, least_road, ROW, 3, hues, 7, 1)

    def test_by_name_as_lists_and_as_tuples(self):
        for hues in ([1, 1, 0, 1, 1, 1], (1, 1, 0, 1, 1, 1)):
            self.gives([0, 1, 2, 3], depths, cap=9, hue=1, hues=hues, span=2, web=ROW)
            self.gives([3, 2, 1, 0], heads, cap=9, hue=1, hues=hues, span=2, web=ROW)
            self.gives(3, longest, cap=9, hue=1, hues=hues, span=2, web=ROW)
            self.gives((0, 2, 3), least_road, steps=2, hue=1, hues=[0] + list(hues)[1:], span=2, web=ROW)

    def test_the_least_road_looks_ahead(self):
        # The least first step of each place leads to an end.
        web = Web(6, [(0, 1), (0, 3), (3, 2), (3, 4), (4, 5), (1, 2)])
        self.gives((0, 3, 4, 5), least_road, web, 2, [0] * 6, 0, 3)
        self.gives((0, 1, 2), least_road, web, 2, [0] * 6, 0, 2)
        web = Web(12, [(0, 2), (2, 10), (2, 9), (9, 11), (10, 11), (1, 2)])
        self.gives((0, 2, 9, 11), least_road, web, 3, [0] * 6, 0, 2)
        self.gives((0, 2, 10, 11), least_road, web, 3, [1, 0, 1, 0, 0, 0], 0, 2)

    def test_webs_without_places_and_without_walks(self):
        for span in (2, 6):
            self.gives([], depths, Web(0), span, [], 0, 200)
            self.gives([], heads, Web(0), span, (), 7, 200)
            self.gives(0, longest, Web(0), span, [], 0, 200)
            self.gives(None, least_road, Web(0), span, [], 0, 0)
            self.gives(None, least_road, Web(0), span, [], 0, 200)
        self.gives([0, 0, 0], depths, Web(3), 2, [], 0, 200)
        self.gives([0, 0, 0], heads, Web(3), 2, [], 0, 200)
        self.gives((0,), least_road, Web(3), 2, [], 0, 0)
        self.gives(None, least_road, Web(3), 2, [], 0, 1)
        self.gives([], depths, Web(3), 3, [], 0, 200)
        self.gives(None, least_road, Web(3), 3, [], 0, 0)
        self.gives([0], depths, path_web(5), 6, [], 0, 200)
        self.gives((0, 1, 2, 3, 4), least_road, path_web(5), 6, [], 0, 0)

    def test_0_steps(self):
        for hue in (0, 7):
            self.gives([0] * 6, depths, ROW, 3, [0] * 4, hue, 0)
            self.gives([0] * 6, heads, ROW, 3, [0] * 4, hue, 0)
            self.gives(0, longest, ROW, 3, [0] * 4, hue, 0)
            self.gives((0, 1), least_road, ROW, 3, [0] * 4, hue, 0)

    def test_rings_and_loops_and_the_caps(self):
        for cap in (0, 1, 199, 200):
            self.gives([cap] * 3, depths, ring_web(3), 3, [2, 2, 2], 2, cap)
            self.gives([cap] * 3, heads, ring_web(3), 3, [2, 2, 2], 2, cap)
            self.gives(cap, longest, ring_web(3), 3, [2, 2, 2], 2, cap)
            self.gives((0,) * (cap + 5), least_road, ring_web(1), 6, [0], 0, cap)
            self.gives(tuple([i % 2 for i in range(cap + 1)]), least_road, ring_web(2), 2, [1, 1], 1, cap)
        self.gives([0, 1, 2], depths, ring_web(3), 2, [2, 2, 1], 2, 200)
        self.gives([2, 1, 0], heads, ring_web(3), 2, [2, 2, 1], 2, 200)
        self.gives([0, 200, 200, 200], depths, Web(4, [(0, 1), (1, 1), (1, 2), (2, 3)]), 2, [0] * 4, 0, 200)
        self.gives([200, 200, 1, 0], heads, Web(4, [(0, 1), (1, 1), (1, 2), (2, 3)]), 2, [0] * 4, 0, 200)

    def test_a_path_of_2000_places(self):
        for span in (2, 6):
            walks = 2001 - span
            hues = [0] * walks
            self.gives([min(i, 200) for i in range(walks + 1)], depths, LONG_PATH, span, hues, 0, 200)
            self.gives([min(walks - i, 200) for i in range(walks + 1)], heads, LONG_PATH, span, hues, 0, 200)
            self.gives(200, longest, LONG_PATH, span, hues, 0, 200)
            self.gives(tuple(range(199 + span)), least_road, LONG_PATH, span, hues, 0, 200)
            hues[150] = 1
            self.gives(tuple(range(151, 350 + span)), least_road, LONG_PATH, span, hues, 0, 200)
            self.gives(1, longest, LONG_PATH, span, hues, 1, 200)
            self.gives(None, least_road, LONG_PATH, span, hues, 1, 2)

    def test_the_order_of_the_checks(self):
        for web in NOT_WEBS:
            self.all_refuse(BadWeb(None), web, 1, None, 8, 201)
        for span in NOT_SPANS:
            self.all_refuse(BadNumber(), hub_web(69, 29), span, None, 8, 201)
        for span in (3, 4, 5, 6):
            self.all_refuse(TooMany(2000), hub_web(69, 29), span, None, 8, 201)
        for hues in NOT_SEQUENCES + ([], [0] * 3, [0] * 5, (None,) * 5, (9,) * 3):
            self.all_refuse(BadHueing(None), ROW, 3, hues, 8, 201)
        for hue in NOT_INTEGERS + (-1, 8, HUGE, -HUGE):
            self.all_refuse(BadHueing(0), ROW, 3, [hue, 0, None, 0], 8, 201)
            self.all_refuse(BadHueing(2), ROW, 3, (0, 7, hue, None), 8, 201)
        for hue in NOT_HUES:
            self.all_refuse(BadNumber(), ROW, 3, [0] * 4, hue, 0)
        for steps in NOT_STEPS:
            self.all_refuse(BadNumber(), ROW, 3, [0] * 4, 0, steps)
            self.all_refuse(BadNumber(), Web(0), 2, [], 7, steps)

    def test_2000_walks(self):
        web = hub_web(40, 50)
        self.gives([0] * 40 + [1] * 50, depths, web, 3, [6] * 2000, 6, 200)
        self.gives([1] * 40 + [0] * 50, heads, web, 3, [6] * 2000, 6, 200)
        self.gives((0, 90, 40), least_road, web, 3, [6] * 2000, 6, 1)
        self.gives([], depths, web, 6, [], 0, 200)

    def test_a_later_change(self):
        hues = [0, 0, 0]
        web = path_web(4)
        for call, answer in ((depths, [0, 1, 2, 3]), (heads, [3, 2, 1, 0])):
            given = call(web, 2, hues, 0, 9)
            given[0] = 77
            given.append(5)
            self.gives([0, 0, 0], call, ring_web(3), 3, hues, 1, 9)
            self.gives(answer, call, web, 2, hues, 0, 9)
        hues[1] = 1
        self.gives([0, 1, 0, 1], depths, web, 2, hues, 0, 9)
        self.gives((0, 1), least_road, web, 2, hues, 0, 1)
        hues[0] = 1
        self.gives((2, 3), least_road, web, 2, hues, 0, 1)


if __name__ == "__main__":
    unittest.main()
