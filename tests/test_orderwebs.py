"""The webs of orders: points 4, 6 and 24, and the last functions of huewalks.linewebs."""

import unittest

from huewalks.box import box, box_rows
from huewalks.closedlots import lots, up
from huewalks.errors import BadNumber, BadOrder, BadWeb, TooMany
from huewalks.linewebs import is_order_web, joins, order_of_web, order_web
from huewalks.orders import Order, chain_order, loose_order
from huewalks.webs import Web, path_web, ring_web, row_web, two_way_web
from helpers import (
    HUGE, NOT_INTEGERS, NOT_ORDERS, NOT_WEBS, ODD_VALUES, ProgramTest, all_small_orders, all_small_webs, shown,
)

SMALL_ORDERS = all_small_orders(4)

# 1953 arrows that rise, and one more for each two things that are not comparable.
OF_2000_ARROWS = loose_order(10) + loose_order(2) + loose_order(2) + chain_order(49)
OF_2001_ARROWS = loose_order(10) + loose_order(2) + loose_order(2) + loose_order(2) + chain_order(47)


def order_web_by_trial(order):
    things = range(order.size)
    return Web(order.size, [(a, b) for a in things for b in things if not order.at_or_below(b, a)])


class OrderWebTest(ProgramTest):

    def test_small_orders(self):
        for order in SMALL_ORDERS + [box([2, 3]), box([2, 2, 2]), up(box([2, 2])), up(loose_order(3))]:
            web = order_web_by_trial(order)
            self.gives(web, order_web, order)
            for a in range(order.size):
                for b in range(order.size):
                    self.assertIs(joins(order, a, b), (a, b) in web)

    def test_orders_of_0_and_1_things(self):
        self.gives(Web(0), order_web, Order(0))
        self.gives(Web(1), order_web, order=Order(1))
        self.gives(False, joins, Order(1), 0, 0)

    def test_chains_and_loose_orders(self):
        self.gives(row_web(63), order_web, chain_order(63))
        self.gives(two_way_web(3, [(0, 1), (0, 2), (1, 2)]), order_web, loose_order(3))
        self.assertEqual(len(order_web(loose_order(45)).arrows), 1980)
        self.gives(True, joins, b=1, a=0, order=chain_order(2))
        self.gives(False, joins, chain_order(2), 1, 0)
        self.gives(True, joins, loose_order(2), 1, 0)

    def test_there_are_arrows_both_ways_exactly_between_things_that_are_not_comparable(self):
        for order in SMALL_ORDERS:
            web = order_web(order)
            for a in range(order.size):
                for b in range(a):
                    self.assertIn((b, a), web)
                    self.assertIs((a, b) in web, not order.comparable(a, b))

    def test_rows_of_a_box(self):
        rows = box_rows([2, 3, 2])
        order = box([2, 3, 2])
        for a, low in enumerate(rows):
            for b, high in enumerate(rows):
                self.assertIs(joins(order, a, b), any(x < y for x, y in zip(low, high)))

    def test_lots_are_joined_if_the_first_is_not_within_the_second(self):
        order = box([2, 3])
        listed = lots(order)
        for a, first in enumerate(listed):
            for b, second in enumerate(listed):
                self.assertIs(joins(up(order), a, b), not set(first) <= set(second))

    def test_exactly_2000_arrows_and_more(self):
        self.gives(order_web_by_trial(OF_2000_ARROWS), order_web, OF_2000_ARROWS)
        self.assertEqual(len(order_web(OF_2000_ARROWS).arrows), 2000)
        for order in (OF_2001_ARROWS, loose_order(46), chain_order(64), chain_order(200), loose_order(200)):
            self.refused(TooMany(2000), order_web, order)
        # The arrow rule alone has no limit.
        self.gives(True, joins, loose_order(200), 199, 0)

    def test_wrong_arguments(self):
        for order in NOT_ORDERS:
            self.refused(BadOrder(None), order_web, order)
            self.refused(BadOrder(None), joins, order, None, None)
        for thing in NOT_INTEGERS + (-1, 2, HUGE, -HUGE):
            self.refused(BadNumber(), joins, Order(2), thing, 0)
            self.refused(BadNumber(), joins, Order(2), 1, thing)
        self.refused(BadNumber(), joins, Order(0), 0, 0)


class IsOrderWebTest(ProgramTest):

    def test_all_small_webs(self):
        known = {shown(order_web_by_trial(order)): order for order in SMALL_ORDERS}
        found = 0
        for web in all_small_webs(3):
            order = known.get(shown(web))
            self.gives(order is not None, is_order_web, web)
            if order is None:
                self.refused(BadWeb(None), order_of_web, web)
            else:
                found += 1
                self.gives(order, order_of_web, web)
        self.assertEqual(found, len([order for order in SMALL_ORDERS if order.size <= 3]))

    def test_webs_of_orders(self):
        for order in SMALL_ORDERS + [box([2, 3]), up(box([2, 2])), chain_order(63), loose_order(45), OF_2000_ARROWS]:
            self.gives(True, is_order_web, web=order_web(order))
            self.gives(order, order_of_web, web=order_web(order))

    def test_other_webs(self):
        for web in (
            ring_web(1), path_web(3), ring_web(3), row_web(3).turned(), row_web(4).without_arrow(0, 3),
            row_web(4).with_arrow(2, 2), Web(2), Web(63), Web(200), Web(201), Web(2000), path_web(200), path_web(201),
            row_web(63).without_arrow(61, 62), Web(64, row_web(63).arrows), Web(3, [(1, 0), (2, 0), (2, 1)]),
            # 0 is at or below 1 and 1 at or below 2, but not 0 at or below 2.
            row_web(3).with_arrow(2, 0),
        ):
            self.gives(False, is_order_web, web)
            self.refused(BadWeb(None), order_of_web, web)
        self.gives(True, is_order_web, row_web(3).with_arrow(1, 0))
        self.gives(False, is_order_web, order_web(OF_2000_ARROWS).without_arrow(0, 9))

    def test_values_of_every_kind(self):
        self.judges_not([value for value in ODD_VALUES if not isinstance(value, Web)], is_order_web)
        self.judges_not(NOT_WEBS, is_order_web)
        for web in NOT_WEBS + (None, 1):
            self.refused(BadWeb(None), order_of_web, web)

    def test_equal_calls_with_others_in_between(self):
        def answers():
            return shown([order_web(box([2, 2])), is_order_web(row_web(4)), order_of_web(order_web(loose_order(3)))])
        before = answers()
        for order in SMALL_ORDERS[::5]:
            order_of_web(order_web(order))
        self.assertEqual(answers(), before)


if __name__ == "__main__":
    unittest.main()
