"""Hueings and layings on the tower: points 3 to 5 and 29 to 31, and huewalks.huelay."""

import unittest
from itertools import product

from huewalks.box import box, box_rows, row_number
from huewalks.closedlots import lots, tower
from huewalks.errors import BadBounds, BadHueing, BadLaying, BadNumber, BadThings, BadWeb, TooLong, TooMany
from huewalks.huelay import (
    box_hues, box_laying, can_hue, hueing_of, laying_of, told_hue, told_hueing,
)
from huewalks.lay import find_laying, is_laying
from huewalks.layhue import lift_times
from huewalks.linewebs import joins, order_web
from huewalks.roads import depths, find_hueing, keeps_bounds, long_road
from huewalks.walks import all_walks, is_walk
from huewalks.webs import Web, beside_web, path_web, ring_web, row_web, two_way_web
from helpers import (
    HUGE, NOT_INTEGERS, NOT_SEQUENCES, NOT_SPANS, NOT_WEBS, TOWERS_OF_200, TOWERS_OF_MORE, WRONG_BOUNDS, ProgramTest,
    all_small_webs, hub_web, shown,
)

SMALL_WEBS = all_small_webs(2) + all_small_webs(3)[20::29] + [row_web(4), ring_web(4), path_web(5)]

SMALL_TOWERS = [(2, [2]), (2, [2, 2]), (2, [1, 3]), (3, [2]), (3, [2, 2]), (3, [1, 2]), (4, [2, 1]), (4, [2, 2])]

LOOP = ring_web(1)


def told_by_definition(span, bounds, things):
    """The told hue by the words of point 31."""
    if span == 2:
        low, high = [box_rows(bounds)[thing] for thing in things]
        return min([c for c in range(len(bounds)) if high[c] > low[c]])
    listed = lots(tower(span - 1, bounds))
    lower = [min(set(listed[a]) - set(listed[b])) for a, b in zip(things, things[1:])]
    return told_by_definition(span - 1, bounds, lower)


def all_hueings(web, span, many):
    return product(range(many), repeat=len(all_walks(web, span)))


class LayingTest(ProgramTest):

    def check_hues(self, call, *question):
        for hues in NOT_SEQUENCES + ([], [0], [0] * 3, (None,) * 3):
            self.refused(BadHueing(None), call, path_web(3), *question, hues)
        for hue in NOT_INTEGERS + (-1, 2, HUGE, -HUGE):
            self.refused(BadHueing(1), call, path_web(4), *question, [0, hue, None])
            self.refused(BadHueing(0), call, LOOP, *question, (hue,))

    def check_layings(self, call, many, *question):
        for laying in NOT_SEQUENCES + ([], [0, 1], (0, 1, 2, 3), [None] * 4):
            self.refused(BadLaying(None), call, path_web(3), *question, laying)
        for thing in NOT_INTEGERS + (-1, many, HUGE, -HUGE):
            self.refused(BadLaying(1), call, path_web(3), *question, [0, thing, None])
            self.refused(BadLaying(2), call, path_web(3), *question, (1, 0, thing))
        self.refused(BadLaying(None), call, path_web(3), *question, [0, 1, 1])
        self.refused(BadLaying(None), call, LOOP, *question, [0])


class BoxTest(LayingTest):

    def test_all_hueings_of_small_webs(self):
        for web in SMALL_WEBS:
            if len(web.arrows) > 6:
                continue
            for bounds in ([2], [1, 3], [2, 2]):
                for hues in all_hueings(web, 2, len(bounds)):
                    found = long_road(web, 2, bounds, hues)
                    if found is not None:
                        self.refused(TooLong(*found), box_laying, web, bounds, hues)
                        continue
                    deep = [depths(web, 2, hues, c, 200) for c in range(len(bounds))]
                    expected = [row_number(bounds, row) for row in zip(*deep)]
                    self.assertEqual(shown(box_laying(web, bounds, list(hues))), shown(expected))
                    self.assertIs(is_laying(web, box(bounds), expected), True)

    def test_all_layings_of_small_webs(self):
        for web in SMALL_WEBS:
            for bounds in ([3], [2, 2], [1, 3], [2, 1, 2]):
                rows = box_rows(bounds)
                for laying in product(range(len(rows)), repeat=web.places):
                    if not is_laying(web, box(bounds), laying):
                        continue
                    expected = [
                        min([c for c in range(len(bounds)) if rows[laying[v]][c] > rows[laying[u]][c]])
                        for u, v in web.arrows
                    ]
                    self.assertEqual(shown(box_hues(web, bounds, laying)), shown(expected))
                    self.assertIs(keeps_bounds(web, 2, bounds, expected), True)

    def test_ordinary_answers(self):
        self.gives([0, 1, 2], box_laying, row_web(3), [3], [0, 0, 0])
        self.gives([0, 2, 1], box_laying, hues=(0, 1, 1), bounds=(2, 2), web=row_web(3))
        self.gives([0, 0, 0], box_hues, row_web(3), [3], [0, 1, 2])
        self.gives([0, 0, 1], box_hues, laying=(0, 2, 3), bounds=(2, 2), web=row_web(3))
        self.gives([2, 1], box_laying, two_way_web(2, [(0, 1)]), [2, 2], [1, 0])

    def test_webs_without_arrows(self):
        self.gives([], box_laying, Web(0), [1], [])
        self.gives([], box_hues, Web(0), [1], [])
        self.gives([0, 0], box_laying, Web(2), [200], ())
        self.gives([], box_hues, Web(2), [200], (199, 3))

    def test_the_limit_on_walks_never_refuses(self):
        web = hub_web(69, 29)
        hues = [0] * 69 + [1] * 29
        laying = box_laying(web, [2, 2], hues)
        self.assertEqual(laying, [0] * 69 + [1] * 29 + [2])
        self.gives(hues, box_hues, web, [2, 2], laying)
        web = Web(2000, [(i, i + 1000) for i in range(1000)])
        self.gives([0] * 1000 + [1] * 1000, box_laying, web, (2,), [0] * 1000)

    def test_bounds_of_1_and_of_200_and_8_bounds(self):
        self.gives(list(range(200)), box_laying, path_web(200), [200], [0] * 199)
        self.refused(TooLong(0, tuple(range(201))), box_laying, path_web(201), [200], [0] * 200)
        self.refused(TooLong(0, (0, 1)), box_laying, path_web(3), [1, 5], [0, 1])
        self.gives([0, 1, 2], box_laying, path_web(3), [2] + [1] * 6 + [2], [7, 0])
        self.gives([7, 0], box_hues, path_web(3), [2] + [1] * 6 + [2], [0, 1, 2])

    def test_the_order_of_the_checks(self):
        for call in (box_laying, box_hues):
            for web in NOT_WEBS:
                self.refused(BadWeb(None), call, web, None, None)
            for bounds, bad_at in WRONG_BOUNDS:
                self.refused(BadBounds(bad_at), call, hub_web(69, 29), bounds, None)
            for bounds in ([3, 67], [200, 2], [200] * 8):
                self.refused(TooMany(200), call, LOOP, bounds, None)
        self.check_hues(box_laying, [2, 2])
        self.check_layings(box_hues, 4, [2, 2])


class TowerTest(LayingTest):

    def test_all_hueings_of_small_webs(self):
        for web in SMALL_WEBS:
            for span, bounds in SMALL_TOWERS:
                if len(all_walks(web, span)) > 6:
                    continue
                order = tower(span, bounds)
                for hues in all_hueings(web, span, len(bounds)):
                    found = long_road(web, span, bounds, hues)
                    if found is not None:
                        self.refused(TooLong(*found), laying_of, web, span, bounds, hues)
                        continue
                    deep = [depths(web, span, hues, c, 200) for c in range(len(bounds))]
                    rows = [row_number(bounds, row) for row in zip(*deep)]
                    laying = laying_of(web, span, bounds, hues)
                    self.assertEqual(shown(laying), shown(lift_times(web, box(bounds), span - 2, rows)))
                    self.assertIs(is_laying(web, order, laying), True)
                    back = hueing_of(web, span, bounds, laying)
                    self.assertIs(keeps_bounds(web, span, bounds, back), True)

    def test_all_layings_of_small_webs(self):
        for web in SMALL_WEBS:
            for span, bounds in SMALL_TOWERS:
                order = tower(span, bounds)
                if len(order) ** web.places > 700:
                    continue
                for laying in product(range(len(order)), repeat=web.places):
                    if is_laying(web, order, laying):
                        expected = [
                            told_by_definition(span, bounds, [laying[place] for place in walk])
                            for walk in all_walks(web, span)
                        ]
                        self.assertEqual(shown(hueing_of(web, span, bounds, laying)), shown(expected))

    def test_ordinary_answers(self):
        self.gives([0, 1, 2], laying_of, row_web(3), 3, [2], [0])
        self.gives([0], hueing_of, row_web(3), 3, [2], [0, 1, 2])
        self.gives([0, 1, 2, 3], laying_of, hues=(0, 0, 0, 0), bounds=(3,), span=3, web=row_web(4))
        self.gives([0, 0, 0, 0], hueing_of, laying=(0, 1, 2, 3), bounds=(3,), span=3, web=row_web(4))
        self.refused(TooLong(0, (0, 1, 2, 3)), laying_of, row_web(4), 3, [2], [0, 0, 0, 0])
        self.refused(TooLong(1, (0, 0, 0)), laying_of, LOOP, 3, [3, 1], [1])

    def test_a_road_of_as_many_steps_as_the_bound_and_of_one_fewer(self):
        for span in range(2, 7):
            for bound in (1, 2, 7):
                web = path_web(span - 1 + bound)
                road = tuple(range(span - 1 + bound))
                self.refused(TooLong(0, road), laying_of, web, span, [bound], [0] * bound)
                laying = laying_of(web, span, [bound + 1], [0] * bound)
                self.assertIs(is_laying(web, tower(span, [bound + 1]), laying), True)
                self.gives([0] * bound, hueing_of, web, span, [bound + 1], laying)

    def test_spans_2_to_6(self):
        for span in range(2, 7):
            web = beside_web(row_web(span + 1), path_web(span + 1))
            for bounds in ([2, 2], [3], [4, 1]):
                hues = find_hueing(web, span, bounds)
                if hues is None:
                    continue
                laying = laying_of(web, span, bounds, hues)
                self.assertIs(is_laying(web, tower(span, bounds), laying), True)
                back = hueing_of(web, span, bounds, laying)
                self.assertIs(keeps_bounds(web, span, bounds, back), True)
            self.gives([], hueing_of, Web(3), span, [2, 2], [0, 0, 1])

    def test_webs_without_arrows(self):
        for span in range(2, 7):
            self.gives([], laying_of, Web(0), span, [1], [])
            self.gives([], hueing_of, Web(0), span, [1], [])
            last = len(tower(span, [2, 2])) - 1
            expected = 0 if span == 2 else last
            self.gives([expected] * 3, laying_of, Web(3), span, [2, 2], [])
            self.gives([], hueing_of, Web(3), span, [2, 2], [last, 0, last])

    def test_loops_rings_and_two_way_arrows(self):
        for span, bounds in ((2, [3, 3]), (3, [2, 2]), (6, [2, 2])):
            self.refused(TooLong(0, (0,) * (span - 1 + bounds[0])), laying_of, LOOP, span, bounds, [0])
            self.refused(BadLaying(None), hueing_of, LOOP, span, bounds, [1])
            self.gives(False, can_hue, LOOP, span, bounds)
        web = two_way_web(2, [(0, 1)])
        for span in range(2, 7):
            laying = laying_of(web, span, [2, 2], [0, 1])
            hues = hueing_of(web, span, [2, 2], laying)
            self.assertIs(keeps_bounds(web, span, [2, 2], hues), True)
        # The closed lots of the box of these bounds are 126.
        hues = [0, 0, 0, 1, 1, 1, 1]
        laying = laying_of(ring_web(7), 3, [4, 5], hues)
        self.assertIs(is_laying(ring_web(7), tower(3, [4, 5]), laying), True)
        self.refused(TooLong(1, (3, 4, 5, 6, 0, 1)), laying_of, ring_web(7), 3, [4, 4], hues)

    def test_towers_of_exactly_200_things(self):
        for span, bounds in TOWERS_OF_200:
            order = tower(span, bounds)
            self.assertEqual(len(order), 200)
            web = path_web(span + 1)
            hues = [0, len(bounds) - 1]
            laying = laying_of(web, span, bounds, hues)
            self.assertIs(is_laying(web, order, laying), True)
            self.assertIs(keeps_bounds(web, span, bounds, hueing_of(web, span, bounds, laying)), True)
            self.gives(0, told_hue, span, bounds, list(range(200 - span, 200)) if len(bounds) == 1 else [0, 199])
            self.gives(True, can_hue, Web(1), span, bounds)

    def test_the_limit_on_walks_never_refuses(self):
        web = hub_web(69, 29)
        for span in (3, 4, 6):
            for call in (laying_of, hueing_of):
                self.refused(TooMany(2000), call, web, span, None, None)
                self.refused(TooMany(2000), call, hub_web(69, 29, hubs=span - 2), span, [], None)
            self.refused(TooMany(2000), can_hue, web, span, None)
        laying = laying_of(hub_web(50, 40), 3, [2], [0] * 2000)
        self.gives([0] * 2000, hueing_of, hub_web(50, 40), 3, [2], laying)

    def test_bounds_of_1_and_of_200_and_8_bounds(self):
        self.gives(list(range(200)), laying_of, path_web(200), 2, [200], [0] * 199)
        self.refused(BadHueing(None), laying_of, path_web(6), 3, [1], [])
        self.refused(TooLong(0, (0, 1, 2)), laying_of, path_web(3), 3, [1], [0])
        self.gives([0, 1], laying_of, path_web(2), 3, [1], [])
        laying = laying_of(path_web(5), 3, [1] * 7 + [4], [7, 7, 7])
        self.gives([7, 7, 7], hueing_of, path_web(5), 3, [1] * 7 + [4], laying)
        self.refused(TooMany(200), laying_of, path_web(5), 3, [200], [0, 0, 0])

    def test_the_order_of_the_checks(self):
        for call in (laying_of, hueing_of):
            for web in NOT_WEBS:
                self.refused(BadWeb(None), call, web, 0, None, None)
            for span in NOT_SPANS:
                self.refused(BadNumber(), call, hub_web(69, 29), span, None, None)
            for bounds, bad_at in WRONG_BOUNDS:
                self.refused(BadBounds(bad_at), call, LOOP, 3, bounds, None)
            for span, bounds in TOWERS_OF_MORE:
                self.refused(TooMany(200), call, LOOP, span, bounds, None)
        for span in (2, 3, 4):
            self.check_layings(hueing_of, len(tower(span, [2, 2])), span, [2, 2])
        self.check_hues(laying_of, 2, [2, 2])
        self.refused(BadHueing(1), laying_of, path_web(4), 3, [2, 2], [0, 2])
        self.refused(BadHueing(None), laying_of, path_web(4), 3, [2, 2], [0, 0, 0])


class ToldTest(ProgramTest):

    def test_all_joined_things_of_small_towers(self):
        for span, bounds in SMALL_TOWERS + [(2, [2, 1, 2]), (3, [2, 3]), (5, [2]), (6, [1])]:
            order = tower(span, bounds)
            web = order_web(order)
            if len(all_walks(web, span)) > 1000:
                continue
            for things in all_walks(web, span):
                expected = told_by_definition(span, bounds, things)
                self.assertEqual(shown(told_hue(span, bounds, things)), shown(expected))

    def test_ordinary_answers(self):
        self.gives(0, told_hue, 3, [2, 2], [2, 3, 2])
        self.gives(1, told_hue, 2, [2, 2], (2, 1))
        self.gives(0, told_hue, things=(1, 2), bounds=(2, 2), span=2)
        self.gives(0, told_hue, 6, [2], [0, 1, 2, 3, 4, 5])
        self.gives(7, told_hue, 2, [1] * 7 + [200], [198, 199])

    def test_the_hueing_of_a_laying_has_the_told_hues(self):
        for span, bounds in ((3, [2, 2]), (4, [2, 2])):
            for web in (row_web(4), path_web(4), two_way_web(2, [(0, 1)])):
                laying = find_laying(web, tower(span, bounds))
                told = [told_hue(span, bounds, [laying[v] for v in walk]) for walk in all_walks(web, span)]
                self.gives(told, hueing_of, web, span, bounds, laying)

    def test_things_that_are_not_joined(self):
        order = tower(3, [2, 2])
        for things in product(range(6), repeat=3):
            steps = [i for i in (1, 2) if not joins(order, things[i - 1], things[i])]
            if steps:
                self.refused(BadThings(steps[0]), told_hue, 3, [2, 2], things)
            else:
                self.assertIs(is_walk(order_web(order), things), True)
                self.assertIn(told_hue(3, [2, 2], list(things)), (0, 1))
        self.refused(BadThings(1), told_hue, 2, [2, 2], [1, 0])
        self.refused(BadThings(1), told_hue, 2, [2, 2], [1, 1])
        self.refused(BadThings(1), told_hue, 3, [2, 2], [2, 2, 99])

    def test_wrong_things(self):
        for things in NOT_SEQUENCES + ([], [0], [0, 1], (0, 1, 2, 3), [None] * 4):
            self.refused(BadThings(None), told_hue, 3, [2, 2], things)
        for thing in NOT_INTEGERS + (-1, 6, HUGE, -HUGE):
            self.refused(BadThings(0), told_hue, 3, [2, 2], [thing, 0, 0])
            self.refused(BadThings(1), told_hue, 3, [2, 2], (0, thing, None))
            self.refused(BadThings(2), told_hue, 3, [2, 2], [0, 1, thing])
        for span in range(2, 7):
            self.refused(BadThings(None), told_hue, span, [2, 2], list(range(span + 1)))
            self.refused(BadThings(None), told_hue, span, [2, 2], list(range(span - 1)))

    def test_the_order_of_the_checks(self):
        for span in NOT_SPANS:
            self.refused(BadNumber(), told_hue, span, None, None)
            self.refused(BadNumber(), told_hueing, span, None)
        for bounds, bad_at in WRONG_BOUNDS:
            self.refused(BadBounds(bad_at), told_hue, 3, bounds, None)
            self.refused(BadBounds(bad_at), told_hueing, 3, bounds)
        for span, bounds in TOWERS_OF_MORE:
            self.refused(TooMany(200), told_hue, span, bounds, None)
            self.refused(TooMany(200), told_hueing, span, bounds)

    def test_told_hueings(self):
        for span, bounds in SMALL_TOWERS + [(5, [1]), (6, [1, 1]), (3, [2, 3]), (2, [40]), (2, [2, 2, 2])]:
            web = order_web(tower(span, bounds))
            if len(all_walks(web, span)) > 2000:
                continue
            expected = [told_hue(span, bounds, walk) for walk in all_walks(web, span)]
            self.gives(expected, told_hueing, span, bounds)
            self.gives(expected, told_hueing, bounds=tuple(bounds), span=span)
            self.assertIs(keeps_bounds(web, span, bounds, expected), True)
        self.gives([], told_hueing, 2, [1])
        self.gives([0] * 1953, told_hueing, 2, [63])

    def test_told_hueings_of_too_many_walks(self):
        self.refused(TooMany(2000), told_hueing, 2, [64])
        self.refused(TooMany(2000), told_hueing, 2, [200])
        self.refused(TooMany(2000), told_hueing, 2, [10, 20])
        # A row of 23 places has 1771 walks of 3 places, one of 24 places has 2024.
        self.gives([0] * 1771, told_hueing, 3, [22])
        self.refused(TooMany(2000), told_hueing, 3, [23])
        self.refused(TooMany(2000), told_hueing, 6, [196])
        self.refused(TooMany(2000), told_hueing, 4, [2, 3])

    def test_a_later_change(self):
        things = [2, 3, 2]
        bounds = [2, 2]
        self.gives(0, told_hue, 3, bounds, things)
        told = told_hueing(3, bounds)
        before = list(told)
        told.clear()
        self.gives(before, told_hueing, 3, bounds)
        things[2] = 5
        bounds.append(1)
        self.gives(told_by_definition(3, bounds, things), told_hue, 3, bounds, things)


class CanHueTest(ProgramTest):

    def test_small_webs(self):
        for web in SMALL_WEBS:
            for span, bounds in SMALL_TOWERS:
                walks = len(all_walks(web, span))
                if len(tower(span, bounds)) ** web.places > 10000 or walks > 10 or len(bounds) ** walks > 1024:
                    continue
                self.gives(find_hueing(web, span, bounds) is not None, can_hue, web, span, bounds)

    def test_ordinary_answers(self):
        self.gives(True, can_hue, row_web(3), 3, [2])
        self.gives(False, can_hue, row_web(4), 3, [2])
        self.gives(True, can_hue, bounds=(3,), span=3, web=row_web(4))
        self.gives(True, can_hue, Web(0), 6, [1])
        self.gives(True, can_hue, Web(1), 2, [200])

    def test_the_limits_of_the_search(self):
        self.gives(True, can_hue, Web(13, [(0, 12), (5, 6)]), 2, [2, 1])
        self.gives(False, can_hue, path_web(13), 2, [2, 1])
        self.gives(False, can_hue, Web(13, [(12, 12)]), 2, [2])
        self.gives(True, can_hue, path_web(2), 2, [10, 10])
        self.refused(TooMany(13), can_hue, Web(14), 2, [1])
        self.refused(TooMany(13), can_hue, Web(14, [(0, 0)]), 2, [200])
        self.refused(TooMany(10000), can_hue, Web(2), 2, [101])
        self.refused(TooMany(10000), can_hue, Web(13, [(0, 0)]), 3, [2])

    def test_the_order_of_the_checks(self):
        for web in NOT_WEBS:
            self.refused(BadWeb(None), can_hue, web, 0, None)
        for span in NOT_SPANS:
            self.refused(BadNumber(), can_hue, hub_web(69, 29), span, None)
        for bounds, bad_at in WRONG_BOUNDS:
            self.refused(BadBounds(bad_at), can_hue, Web(14), 3, bounds)
        for span, bounds in TOWERS_OF_MORE:
            self.refused(TooMany(200), can_hue, Web(14), span, bounds)


class CallsInBetweenTest(ProgramTest):

    def test_equal_calls_give_equal_answers(self):
        def answers():
            return shown([
                laying_of(row_web(4), 3, [2, 2], [0, 0, 0, 1]), hueing_of(row_web(4), 3, [2, 2], [0, 1, 2, 3]),
                box_laying(row_web(3), [3], [0, 0, 0]), box_hues(row_web(3), [3], [0, 1, 2]), told_hueing(3, [3]),
                told_hue(4, [2, 2], [0, 1, 2, 3]), can_hue(row_web(4), 3, [2, 2]),
            ])
        before = answers()
        for span, bounds in SMALL_TOWERS:
            tower_hues = told_hueing(span, bounds)
            laying_of(order_web(tower(span, bounds)), span, bounds, tower_hues)
            can_hue(path_web(3), span, bounds)
        self.assertEqual(answers(), before)

    def test_a_later_change(self):
        hues = [0, 0, 0, 1]
        laying = laying_of(row_web(4), 3, [2, 2], hues)
        before = list(laying)
        laying.reverse()
        hues[3] = 0
        self.refused(TooLong(0, (0, 1, 2, 3)), laying_of, row_web(4), 3, [2, 2], hues)
        self.gives(before, laying_of, row_web(4), 3, [2, 2], [0, 0, 0, 1])
        back = hueing_of(row_web(4), 3, [2, 2], before)
        expected = list(back)
        back.clear()
        self.gives(expected, hueing_of, row_web(4), 3, [2, 2], before)


if __name__ == "__main__":
    unittest.main()
