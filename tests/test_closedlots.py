"""Closed lots, their orders and the tower: points 5, 18, 19, 20 and 22, and huewalks.closedlots."""

import unittest
from math import comb

from huewalks.box import box, box_rows
from huewalks.closedlots import lot_number, lots, spelled, tower, up, up_times
from huewalks.errors import BadBounds, BadNumber, BadOrder, BadThings, TooMany
from huewalks.orders import Order, chain_order, is_closed, loose_order
from huewalks.webs import Web
from helpers import (
    HUGE, NOT_INTEGERS, NOT_ORDERS, NOT_SEQUENCES, NOT_SPANS, WRONG_BOUNDS, ProgramTest, all_small_orders, shown,
    table_of,
)

SMALL_ORDERS = all_small_orders(4)

NOT_TIMES = NOT_INTEGERS + (-1, 5, HUGE, -HUGE)

# Two chains side by side of m and n things have (m + 1) * (n + 1) closed lots.
OF_200_LOTS = (chain_order(199), chain_order(9).beside(chain_order(19)), chain_order(7).beside(chain_order(24)))

OF_MORE_LOTS = (
    chain_order(200), chain_order(2).beside(chain_order(66)), loose_order(8), loose_order(200),
    chain_order(100).beside(chain_order(100)), loose_order(100) + loose_order(100),
)


def lots_by_trial(order):
    """All closed lots, found among all lots, in the order of point 19."""
    found = []
    for bits in range(2 ** order.size):
        lot = tuple(a for a in range(order.size) if bits >> a & 1)
        if is_closed(order, lot):
            found.append(lot)
    return sorted(found, key=lambda lot: (-len(lot), lot))


def up_by_trial(order):
    """The order of the closed lots, given by all its pairs."""
    listed = [set(lot) for lot in lots_by_trial(order)]
    pairs = [(i, j) for j in range(len(listed)) for i in range(j) if listed[i] >= listed[j]]
    return Order(len(listed), pairs)


def count_lots(order, things):
    """The number of lots that are closed among these things: those with the last thing and those without it."""
    if not things:
        return 1
    last = things[-1]
    with_it = [a for a in things if not order.at_or_below(last, a)]
    without_it = [a for a in things if not order.at_or_below(a, last)]
    return count_lots(order, with_it) + count_lots(order, without_it)


class LotsTest(ProgramTest):

    def test_small_orders(self):
        for order in SMALL_ORDERS:
            expected = lots_by_trial(order)
            self.gives(expected, lots, order)
            for i, lot in enumerate(expected):
                self.gives(i, lot_number, order, lot)
                self.gives(i, lot_number, order, list(lot))

    def test_the_examples(self):
        self.gives([(0, 1, 2, 3), (1, 2, 3), (1, 3), (2, 3), (3,), ()], lots, box([2, 2]))
        self.gives([(0, 1), (0,), (1,), ()], lots, order=loose_order(2))
        self.gives([()], lots, Order(0))
        self.gives([(0,), ()], lots, Order(1))

    def test_equally_large_lots_ascend_as_integers(self):
        order = Order(12, [(a, 11) for a in range(11)] + [(a, a + 1) for a in range(9)])
        listed = lots(order)
        self.assertEqual(listed, lots_by_trial(order))
        self.assertLess(listed.index((8, 9, 11)), listed.index((9, 10, 11)))

    def test_exactly_200_lots(self):
        for order in OF_200_LOTS:
            listed = lots(order)
            self.assertEqual(len(listed), 200)
            self.assertEqual(listed, sorted(listed, key=lambda lot: (-len(lot), lot)))
            self.assertTrue(all(is_closed(order, lot) for lot in listed))
            self.assertEqual((listed[0], listed[199]), (tuple(range(order.size)), ()))
            self.assertEqual(len(up(order)), 200)
            self.gives(199, lot_number, order, [])
            self.gives(0, lot_number, order, list(range(order.size)))
        self.gives(chain_order(200), up, chain_order(199))

    def test_more_than_200_lots(self):
        for order in OF_MORE_LOTS:
            self.refused(TooMany(200), lots, order)
            self.refused(TooMany(200), up, order)
            for lot in ([], (), None, [200], [0, 0], list(range(order.size))):
                self.refused(TooMany(200), lot_number, order, lot)

    def test_lot_number_by_name(self):
        self.gives(2, lot_number, lot=[1, 3], order=box([2, 2]))

    def test_wrong_lots(self):
        order = Order(3, [(0, 1)])
        for lot in NOT_SEQUENCES + ([0], [0, 2], (1, 0), [1, 1], [[1]], (0, 1, 2, 3), {1: 1}):
            self.refused(BadThings(None), lot_number, order, lot)
        for member in NOT_INTEGERS + (-1, 3, HUGE, -HUGE):
            self.refused(BadThings(None), lot_number, order, [member])
            self.refused(BadThings(None), lot_number, order, (1, member))
        self.refused(BadThings(None), lot_number, Order(0), [0])

    def test_wrong_orders(self):
        for order in NOT_ORDERS:
            self.refused(BadOrder(None), lots, order)
            self.refused(BadOrder(None), up, order)
            self.refused(BadOrder(None), lot_number, order, None)
            self.refused(BadOrder(None), up_times, order, 5)

    def test_a_later_change(self):
        order = box([2, 2])
        expected = lots(order)
        lots(order).clear()
        lots(order)[0] = None
        up(loose_order(3))
        self.gives(expected, lots, order)
        lot = [1, 3]
        self.gives(2, lot_number, order, lot)
        lot[0] = 2
        self.gives(3, lot_number, order, lot)


class UpTest(ProgramTest):

    def test_small_orders(self):
        for order in SMALL_ORDERS:
            self.gives(up_by_trial(order), up, order)
            self.assertGreater(len(up(order)), len(order))

    def test_each_lot_is_below_the_lots_within_it(self):
        order = chain_order(3).beside(chain_order(2)) + loose_order(2)
        listed = [set(lot) for lot in lots(order)]
        self.assertEqual(table_of(up(order)), [[first >= second for second in listed] for first in listed])

    def test_the_order_without_things(self):
        self.gives(Order(1), up, Order(0))
        self.gives(Order(1), up, order=Order(0))
        self.gives(chain_order(4), up_times, Order(0), 4)

    def test_chains(self):
        for size in (0, 1, 5, 199):
            self.gives(chain_order(size + 1), up, chain_order(size))

    def test_times(self):
        for order in (Order(0), Order(1), loose_order(2), chain_order(7), Order(3, [(0, 2)])):
            expected = order
            for times in range(3):
                self.gives(expected, up_times, order, times)
                self.gives(expected, up_times, times=times, order=order)
                expected = up(expected)

    def test_0_times(self):
        for order in OF_MORE_LOTS + OF_200_LOTS:
            self.gives(order, up_times, order, 0)

    def test_an_order_on_the_way_with_more_than_200_things(self):
        self.gives(chain_order(200), up_times, chain_order(196), 4)
        self.refused(TooMany(200), up_times, chain_order(197), 4)
        for order in OF_200_LOTS:
            self.assertEqual(len(up_times(order, 1)), 200)
        self.gives(chain_order(200), up_times, chain_order(198), 2)
        self.refused(TooMany(200), up_times, chain_order(199), 2)
        for order in OF_MORE_LOTS:
            for times in range(1, 5):
                self.refused(TooMany(200), up_times, order, times)
        self.assertEqual([len(up_times(loose_order(3), times)) for times in range(4)], [3, 8, 20, 84])
        self.refused(TooMany(200), up_times, loose_order(3), 4)

    def test_wrong_times(self):
        for times in NOT_TIMES:
            self.refused(BadNumber(), up_times, Order(2), times)
            self.refused(BadNumber(), up_times, chain_order(200), times)


class TowerTest(ProgramTest):

    def test_span_2_is_the_box(self):
        for bounds in ([1], [200], [2, 3], [3, 1, 2], (10, 20)):
            self.gives(box(bounds), tower, 2, bounds)
            self.gives(box(bounds), tower, bounds=bounds, span=2)

    def test_each_span_is_up_of_the_one_before(self):
        for bounds in ([1], [4], [2, 2], [1, 2], (1,) * 8):
            order = box(bounds)
            for span in range(2, 7):
                self.gives(order, tower, span, bounds)
                order = up_by_trial(order) if order.size < 13 else up(order)

    def test_known_numbers_of_things(self):
        for n in range(1, 200, 33):
            self.assertEqual(len(tower(3, [n])), n + 1)
        for n in range(1, 5):
            for m in range(1, 5):
                self.assertEqual(len(tower(3, [n, m])), comb(n + m, n))
        for many, number in ((1, 3), (2, 6), (3, 20), (4, 168)):
            self.assertEqual(len(tower(3, [2] * many)), number)
        for n in range(1, 7):
            self.assertEqual(len(tower(4, [2, n])), 2 ** (n + 1))
        self.assertEqual(len(tower(3, [2, 2, 3])), 50)
        self.assertEqual(len(tower(3, [2, 3, 3])), 175)
        for span, bounds in ((4, [2, 2, 2]), (5, [2, 4]), (6, [2, 3]), (6, [3, 2]), (6, [2, 2])):
            lower = tower(span - 1, bounds)
            self.assertEqual(len(tower(span, bounds)), count_lots(lower, list(range(lower.size))))
        self.assertEqual(len(tower(6, [1] * 8)), 5)
        self.assertEqual(len(tower(6, [196])), 200)

    def test_more_than_200_things(self):
        for span, bounds in (
            (2, [3, 67]), (2, [200] * 8), (3, [3, 67]), (3, [4, 6]), (3, [2] * 5), (4, [2, 7]), (4, [2] * 4),
            (5, [2, 2, 2]), (6, [2, 4]), (6, [200] * 8),
        ):
            self.refused(TooMany(200), tower, span, bounds)
        for span in (3, 4, 5, 6):
            self.gives(chain_order(200), tower, span, [202 - span])
            self.refused(TooMany(200), tower, span, [203 - span])

    def test_wrong_arguments(self):
        for span in NOT_SPANS:
            self.refused(BadNumber(), tower, span, [])
        for span in range(2, 7):
            for bounds, bad_at in WRONG_BOUNDS:
                self.refused(BadBounds(bad_at), tower, span, bounds)

    def test_a_later_change(self):
        bounds = [2, 2]
        order = tower(3, bounds)
        bounds.append(2)
        self.assertEqual((len(tower(3, bounds)), len(order)), (20, 6))
        self.gives(order, tower, 3, (2, 2))


class SpelledTest(ProgramTest):

    def test_span_2(self):
        for bounds in ([5], [2, 3], (1, 2, 2), [10, 20]):
            for thing, row in enumerate(box_rows(bounds)):
                self.gives(row, spelled, 2, bounds, thing)

    def test_spans_3_and_4(self):
        for bounds in ([1], [3], [2, 2], (1, 2), [2, 3]):
            rows = box_rows(bounds)
            lower = lots(box(bounds))
            upper = lots(tower(3, bounds))
            names = [tuple(rows[row] for row in lot) for lot in lower]
            for thing in range(len(lower)):
                self.gives(names[thing], spelled, 3, bounds, thing)
            for thing, lot in enumerate(upper):
                self.gives(tuple(names[low] for low in lot), spelled, 4, bounds, thing)

    def test_ordinary_answers(self):
        self.gives(((1,),), spelled, 3, [2], 1)
        self.gives(((0,), (1,)), spelled, thing=0, bounds=(2,), span=3)
        self.gives((), spelled, 3, [2], 2)
        self.gives((((0,), (1,)), ((1,),), ()), spelled, 4, [2], 0)
        self.gives((((1,),), ()), spelled, 4, [2], 1)
        self.gives(((),), spelled, 4, [2], 2)
        self.gives((), spelled, 4, [2], 3)
        self.gives(((0, 1), (1, 1)), spelled, 3, [2, 2], 2)

    def test_the_tower_goes_before_the_thing(self):
        for span, bounds in ((2, [3, 67]), (3, [200]), (3, [2] * 5), (4, [2, 7]), (4, [199]), (4, [200] * 8)):
            for thing in (None, 0, -1, 200):
                self.refused(TooMany(200), spelled, span, bounds, thing)
        self.gives((), spelled, 4, [198], 199)
        self.gives((), spelled, 3, [199], 199)

    def test_wrong_arguments(self):
        for span in NOT_SPANS + (5, 6):
            self.refused(BadNumber(), spelled, span, [], None)
        for span in (2, 3, 4):
            for bounds, bad_at in WRONG_BOUNDS:
                self.refused(BadBounds(bad_at), spelled, span, bounds, None)
            many = len(tower(span, [2, 2]))
            for thing in NOT_INTEGERS + (-1, many, many + 1, HUGE, -HUGE):
                self.refused(BadNumber(), spelled, span, [2, 2], thing)
            self.gives(spelled(span, [2, 2], many - 1), spelled, span, (2, 2), many - 1)


class CallsInBetweenTest(ProgramTest):

    def test_equal_calls_give_equal_answers(self):
        def answers():
            return shown([
                lots(box([2, 3])), up(loose_order(3)), tower(4, [2, 2]), spelled(4, [2, 2], 1),
                lot_number(box([2, 2]), (1, 3)), up_times(Order(2), 2),
            ])
        before = answers()
        for order in SMALL_ORDERS[::9] + [chain_order(190)]:
            up(order)
            lots(order)
        tower(5, [3])
        Web(3, [(0, 1)])
        self.assertEqual(answers(), before)


if __name__ == "__main__":
    unittest.main()
