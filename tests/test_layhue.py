"""Layings lifted and lowered: points 3, 4, 5 and 28, and huewalks.layhue."""

import unittest
from itertools import product

from huewalks.box import box
from huewalks.closedlots import lots, up, up_times
from huewalks.errors import BadLaying, BadNumber, BadOrder, BadWeb, TooMany
from huewalks.lay import find_laying, is_laying
from huewalks.layhue import lift_laying, lift_times, lower_laying, lower_times
from huewalks.linewebs import line_web, line_web_times
from huewalks.orders import Order, chain_order, closure, loose_order
from huewalks.webs import Web, beside_web, path_web, ring_web, row_web, two_way_web
from helpers import (
    HUGE, NOT_INTEGERS, NOT_ORDERS, NOT_SEQUENCES, NOT_WEBS, ProgramTest, all_small_webs, hub_web, shown,
)

SMALL_WEBS = all_small_webs(2) + all_small_webs(3)[20::29] + [row_web(4), ring_web(4), path_web(5)]
SMALL_ORDERS = [Order(0), Order(1), chain_order(2), loose_order(2), Order(3, [(0, 2)]), box([2, 2])]

CALLS = (lift_laying, lower_laying)
TIMES_CALLS = (lift_times, lower_times)


def lifted_by_trial(web, order, laying):
    listed = lots(order)
    things = dict(zip(web.arrows, laying))
    return [
        listed.index(closure(order, sorted(set([things[(u, v)] for v in web.out_of(u)])))) for u in range(web.places)
    ]


def lowered_by_trial(web, order, laying):
    listed = lots(order)
    return [min(set(listed[laying[u]]) - set(listed[laying[v]])) for u, v in web.arrows]


def all_layings(web, order):
    return [things for things in product(range(order.size), repeat=web.places) if is_laying(web, order, things)]


class LiftTest(ProgramTest):

    def test_all_layings_of_small_line_webs(self):
        for web in SMALL_WEBS:
            if len(web.arrows) > 5:
                continue
            for order in SMALL_ORDERS:
                for laying in all_layings(line_web(web), order):
                    expected = lifted_by_trial(web, order, laying)
                    self.assertEqual(shown(lift_laying(web, order, laying)), shown(expected))
                    self.assertEqual(shown(lift_times(web, order, 1, list(laying))), shown(expected))
                    self.assertIs(is_laying(web, up(order), expected), True)

    def test_all_layings_of_small_webs(self):
        for web in SMALL_WEBS:
            for order in SMALL_ORDERS:
                if up(order).size ** web.places > 700:
                    continue
                for laying in all_layings(web, up(order)):
                    expected = lowered_by_trial(web, order, laying)
                    self.assertEqual(shown(lower_laying(web, order, laying)), shown(expected))
                    self.assertEqual(shown(lower_times(web, order, 1, list(laying))), shown(expected))
                    self.assertIs(is_laying(line_web(web), order, expected), True)

    def test_ordinary_answers(self):
        # The arrows of the row of 3 places are (0, 1), (0, 2), (1, 2).
        self.gives([0, 1, 2], lift_laying, row_web(3), chain_order(2), [0, 0, 1])
        self.gives([0, 1, 2], lift_laying, laying=(0, 1, 1), order=chain_order(2), web=row_web(3))
        self.gives([0, 0, 1], lower_laying, row_web(3), chain_order(2), [0, 1, 2])
        self.gives([0, 0, 1], lower_laying, laying=(0, 1, 2), order=chain_order(2), web=row_web(3))
        self.gives([1, 2], lift_laying, two_way_web(2, [(0, 1)]), loose_order(2), [0, 1])
        self.gives([0, 1], lower_laying, two_way_web(2, [(0, 1)]), loose_order(2), [1, 2])

    def test_the_least_thing_is_the_least_integer(self):
        # The lots of two things that are not comparable: (0, 1), (0,), (1,), ().
        self.gives([0], lower_laying, path_web(2), loose_order(2), [0, 3])
        self.gives([0], lower_laying, path_web(2), loose_order(2), [0, 2])
        self.gives([1], lower_laying, path_web(2), loose_order(2), [0, 1])
        self.gives([1, 0], lower_laying, Web(3, [(0, 1), (0, 2)]), loose_order(2), [0, 1, 2])

    def test_places_without_arrows_out_of_them_get_the_empty_lot(self):
        self.gives([1, 1, 1], lift_laying, Web(3), Order(1), [])
        self.gives([3, 3], lift_laying, Web(2), loose_order(2), ())
        self.gives([0, 0], lift_laying, Web(2), Order(0), [])
        self.gives([], lift_laying, Web(0), Order(0), [])
        self.gives([0, 2], lift_laying, path_web(2), chain_order(2), [0])
        self.gives([1, 2], lift_laying, path_web(2), chain_order(2), [1])
        self.gives([], lower_laying, Web(3), loose_order(2), [0, 3, 3])
        self.gives([], lower_laying, Web(0), Order(0), [])

    def test_loops_have_no_laying(self):
        web = Web(2, [(0, 1), (1, 1)])
        for order in (chain_order(2), loose_order(2)):
            for first, second in product(range(2), repeat=2):
                self.refused(BadLaying(None), lift_laying, web, order, [first, second])
            for first, second in product(range(up(order).size), repeat=2):
                self.refused(BadLaying(None), lower_laying, web, order, [first, second])
            for times in range(2, 5):
                lined = line_web_times(ring_web(1), times)
                self.assertEqual(lined, ring_web(1))
                self.refused(BadLaying(None), lift_times, ring_web(1), Order(1), times, [0])
                self.refused(BadLaying(None), lower_times, ring_web(1), Order(1), times, [times])

    def test_back_and_forth(self):
        order = box([2, 2])
        for web in (row_web(4), ring_web(4), beside_web(path_web(3), row_web(3)), two_way_web(3, [(0, 1), (1, 2)])):
            laying = find_laying(line_web(web), order)
            lifted = lift_laying(web, order, laying)
            self.assertIs(is_laying(web, up(order), lifted), True)
            lowered = lower_laying(web, order, lifted)
            self.assertIs(is_laying(line_web(web), order, lowered), True)
            # Lowering what was lifted need not give the same laying, but it lifts to lots within those.
            again = lift_laying(web, order, lowered)
            listed = lots(order)
            self.assertTrue(all(set(listed[b]) <= set(listed[a]) for a, b in zip(lifted, again)))


class TimesTest(ProgramTest):

    def test_each_number_of_times_is_one_more_than_the_one_before(self):
        web = Web(5, [(0, 1), (1, 2), (2, 0), (2, 3), (3, 4), (1, 4)])
        for bounds in ([2, 2], [4]):
            order = box(bounds)
            for times in range(5):
                lined = line_web_times(web, times)
                if lined.places > 13 or len(order) ** lined.places > 10000:
                    continue
                laying = find_laying(lined, order)
                if laying is None:
                    continue
                expected = laying
                for done in range(times):
                    expected = lifted_by_trial(line_web_times(web, times - 1 - done), up_times(order, done), expected)
                self.gives(expected, lift_times, web, order, times, laying)
                self.assertIs(is_laying(web, up_times(order, times), expected), True)
                lowered = expected
                for done in range(times):
                    lowered = lowered_by_trial(line_web_times(web, done), up_times(order, times - 1 - done), lowered)
                self.gives(lowered, lower_times, web, order, times, tuple(expected))
                self.assertIs(is_laying(lined, order, lowered), True)

    def test_rows_and_chains(self):
        # A row of n places has walks of n places at most, so its line webs grow thin.
        for times in range(5):
            web = row_web(times + 2)
            laying = lower_times(web, chain_order(2), times, list(range(times + 2)))
            self.assertIs(is_laying(line_web_times(web, times), chain_order(2), laying), True)
            self.gives(list(range(times + 2)), lift_times, web, chain_order(2), times, laying)
            self.gives(laying, lower_times, laying=tuple(range(times + 2)), times=times, order=chain_order(2), web=web)
            self.gives(list(range(times + 2)), lift_times, laying=laying, times=times, order=chain_order(2), web=web)

    def test_0_times(self):
        for call in TIMES_CALLS:
            self.gives([2, 0, 1], call, row_web(3), loose_order(3), 0, (2, 0, 1))
            self.gives([], call, Web(0), Order(0), 0, [])
            self.gives([0, 98], call, path_web(2), loose_order(200), 0, [0, 98])
            self.refused(BadLaying(None), call, path_web(2), chain_order(200), 0, [98, 0])
            # No limit is asked of the line web or of closed lots that are not made.
            self.gives([0] * 2000, call, Web(2000), loose_order(200), 0, [0] * 2000)
            laying = [0] * 69 + [2] * 29 + [1]
            self.gives(laying, call, hub_web(69, 29), chain_order(200), 0, laying)

    def test_4_times(self):
        self.gives([0, 1, 2, 3, 4, 5], lift_times, path_web(6), chain_order(2), 4, [0, 1])
        self.gives([0, 1], lower_times, path_web(6), chain_order(2), 4, [0, 1, 2, 3, 4, 5])
        self.gives([3, 3], lift_times, Web(2), Order(0), 4, [])
        self.gives([], lower_times, Web(2), Order(0), 4, [0, 3])

    def test_a_great_web(self):
        laying = lift_times(path_web(2000), loose_order(2), 1, [i % 2 for i in range(1999)])
        self.assertEqual(laying, [i % 2 + 1 for i in range(1999)] + [3])
        self.gives([i % 2 for i in range(1999)], lower_times, path_web(2000), loose_order(2), 1, laying)
        web = hub_web(50, 40)
        laying = lift_laying(web, chain_order(199), [7] * 50 + [198] * 40)
        self.assertEqual(laying, [7] * 50 + [199] * 40 + [198])
        self.gives([7] * 50 + [198] * 40, lower_laying, web, chain_order(199), laying)


class ErrorsTest(ProgramTest):

    def test_webs_and_orders(self):
        for call in CALLS:
            for web in NOT_WEBS:
                self.refused(BadWeb(None), call, web, None, None)
            for order in NOT_ORDERS:
                self.refused(BadOrder(None), call, hub_web(69, 29), order, None)
        for call in TIMES_CALLS:
            for web in NOT_WEBS:
                self.refused(BadWeb(None), call, web, None, None, None)
            for order in NOT_ORDERS:
                self.refused(BadOrder(None), call, hub_web(69, 29), order, None, None)
            for times in NOT_INTEGERS + (-1, 5, HUGE, -HUGE):
                self.refused(BadNumber(), call, hub_web(69, 29), chain_order(200), times, None)

    def test_the_place_of_the_limits(self):
        for laying in (None, [0] * 98):
            for call in CALLS:
                self.refused(TooMany(2000), call, hub_web(69, 29), chain_order(200), laying)
                self.refused(TooMany(200), call, hub_web(50, 40), chain_order(200), laying)
                self.refused(TooMany(200), call, Web(0), loose_order(8), laying)
            for call in TIMES_CALLS:
                for times in range(1, 5):
                    self.refused(TooMany(2000), call, hub_web(69, 29), chain_order(200), times, laying)
                    self.refused(TooMany(2000), call, hub_web(69, 29, hubs=times), chain_order(200), times, laying)
                    self.refused(TooMany(200), call, path_web(9), chain_order(201 - times), times, laying)
        for times in range(1, 5):
            self.gives([], lower_times, Web(1), chain_order(200 - times), times, [199])

    def test_lift_laying_checks_a_laying_of_the_line_web(self):
        web = path_web(4)
        for laying in NOT_SEQUENCES + ([], [0, 1], [0, 1, 2, 3], (None,) * 4):
            self.refused(BadLaying(None), lift_laying, web, chain_order(3), laying)
            self.refused(BadLaying(None), lift_times, web, chain_order(3), 1, laying)
        for thing in NOT_INTEGERS + (-1, 3, HUGE, -HUGE):
            self.refused(BadLaying(1), lift_laying, web, chain_order(3), [2, thing, None])
            self.refused(BadLaying(0), lift_times, web, chain_order(3), 2, (thing, None))
        self.refused(BadLaying(None), lift_laying, web, chain_order(3), [0, 1, 1])
        self.refused(BadLaying(2), lift_laying, web, chain_order(3), [1, 0, 3])

    def test_lower_laying_checks_a_laying_on_the_closed_lots(self):
        web = path_web(3)
        for laying in NOT_SEQUENCES + ([], [0, 1], [0, 1, 2, 3], (None,) * 4):
            self.refused(BadLaying(None), lower_laying, web, chain_order(3), laying)
            self.refused(BadLaying(None), lower_times, web, chain_order(3), 1, laying)
        for thing in NOT_INTEGERS + (-1, 4, HUGE, -HUGE):
            self.refused(BadLaying(1), lower_laying, web, chain_order(3), [3, thing, None])
        for thing in NOT_INTEGERS + (-1, 5, HUGE, -HUGE):
            self.refused(BadLaying(0), lower_times, web, chain_order(3), 2, (thing, None, 4))
        self.refused(BadLaying(None), lower_laying, web, chain_order(3), [0, 2, 1])
        self.refused(BadLaying(2), lower_laying, web, chain_order(3), [1, 0, 4])

    def test_a_later_change(self):
        laying = [0, 1, 1]
        lift_laying(row_web(3), chain_order(2), laying).clear()
        lift_times(row_web(3), chain_order(3), 0, [0, 1, 2]).clear()
        self.gives([0, 1, 2], lift_laying, row_web(3), chain_order(2), laying)
        laying[1] = 0
        self.gives([0, 1, 2], lift_laying, row_web(3), chain_order(2), laying)
        full = [0, 1, 2]
        lower_times(row_web(3), chain_order(3), 0, full)[0] = 7
        lower_laying(row_web(3), chain_order(2), full)[0] = 7
        self.gives([0, 0, 1], lower_laying, row_web(3), chain_order(2), full)

    def test_equal_calls_with_others_in_between(self):
        def answers():
            return shown([
                lift_laying(ring_web(3), loose_order(3), [0, 1, 2]),
                lower_laying(ring_web(3), loose_order(3), [1, 2, 3]),
                lift_times(path_web(4), box([2, 2]), 2, [0, 1]), lower_times(path_web(4), box([2, 2]), 2, [0, 1, 2, 3]),
            ])
        before = answers()
        for web in (path_web(4), row_web(3), Web(4, [(0, 1)])):
            lower_times(web, box([3, 2]), 2, [0, 1, 2, 3][:web.places])
            lower_times(web, loose_order(3), 1, [0, 1, 2, 3][:web.places])
        self.assertEqual(answers(), before)


if __name__ == "__main__":
    unittest.main()
