"""Orders: points 1 to 6, 15, 16 and 18, and huewalks.orders."""

import unittest

from huewalks.errors import BadNumber, BadOrder, BadThings, TooMany
from huewalks.orders import Order, chain_order, closure, is_closed, loose_order
from huewalks.webs import Web
from helpers import (
    HUGE, NOT_INTEGERS, NOT_ORDERS, NOT_SEQUENCES, ProgramTest, all_small_orders, reached_by_trial, shown, table_of,
)

SMALL_ORDERS = all_small_orders(3) + all_small_orders(4)[12::5]

NOT_SIZES = NOT_INTEGERS + (-1, 201, HUGE, -HUGE)

NOT_THINGS_OF_3 = NOT_INTEGERS + (-1, -3, 3, 4, HUGE, -HUGE)

ALL_PAIRS_OF_200 = [(a, b) for a in range(200) for b in range(a + 1, 200)]


class OrderTest(ProgramTest):

    def test_all_sets_of_pairs_of_4_things(self):
        rising = [(a, b) for b in range(4) for a in range(b)]
        for bits in range(64):
            pairs = [pair for i, pair in enumerate(rising) if bits >> i & 1]
            self.assertEqual(table_of(Order(4, pairs)), reached_by_trial(4, pairs))
            self.assertEqual(table_of(Order(4, pairs[::-1])), reached_by_trial(4, pairs))

    def test_arguments_by_name_as_lists_and_as_tuples(self):
        pairs = [(0, 1), (1, 3), (2, 3)]
        for given in (pairs, tuple(pairs), [list(pair) for pair in pairs], ([2, 3], (1, 3), [0, 1])):
            self.gives(Order(4, pairs), Order, size=4, pairs=given)
            self.gives(Order(4, pairs), Order, 4, given)
        self.assertIs(Order(4, pairs).at_or_below(a=0, b=3), True)
        self.assertIs(Order(4, pairs).at_or_below(b=0, a=3), False)
        self.assertIs(Order(4, pairs).comparable(b=0, a=3), True)
        self.assertEqual(Order(4, pairs).above(thing=1), [1, 3])
        self.assertEqual(Order(4, pairs).beneath(thing=1), [0, 1])
        self.assertEqual(Order(4, pairs).beside(other=Order(1)), Order(5, pairs))

    def test_needless_and_repeated_pairs(self):
        order = Order(4, [(0, 1), (1, 2), (2, 3)])
        for pairs in (
            [(0, 1), (1, 2), (2, 3), (0, 1), [1, 2]],
            [(0, 3), (0, 2), (1, 3), (2, 3), (1, 2), (0, 1)],
            [(2, 3), (1, 2), (0, 1), (0, 3), (0, 3)],
        ):
            self.gives(order, Order, 4, pairs)
            self.assertIs(Order(4, pairs) == order, True)
            self.assertEqual(shown(Order(4, pairs).covers), shown([(0, 1), (1, 2), (2, 3)]))

    def test_0_and_1_things(self):
        for order in (Order(0), Order(size=0, pairs=[])):
            self.assertEqual(shown([order.size, len(order), order.covers]), shown([0, 0, []]))
            self.refused(BadNumber(), order.above, 0)
        order = Order(1, ())
        self.assertEqual(shown([order.size, len(order), order.covers, order.above(0), order.beneath(0)]),
                         shown([1, 1, [], [0], [0]]))
        self.refused(BadOrder(0), Order, 0, [(0, 1)])
        self.refused(BadOrder(0), Order, 1, [(0, 0)])

    def test_200_things_and_all_pairs_of_a_chain(self):
        order = Order(200, ALL_PAIRS_OF_200)
        self.assertIs(order == chain_order(200), True)
        self.assertIs(Order(200, ALL_PAIRS_OF_200[::-1]) == order, True)
        self.assertEqual(shown([order.size, len(order)]), shown([200, 200]))
        self.assertEqual(shown(order.covers), shown([(a, a + 1) for a in range(199)]))
        self.assertEqual(order.above(150), list(range(150, 200)))
        self.assertEqual(order.beneath(199), list(range(200)))
        self.assertEqual(Order(200, [(0, 199)]).above(0), [0, 199])

    def test_covers(self):
        for order in SMALL_ORDERS:
            size = order.size
            expected = []
            for a in range(size):
                for b in range(size):
                    between = [c for c in range(size) if c not in (a, b)
                               and order.at_or_below(a, c) and order.at_or_below(c, b)]
                    if a != b and order.at_or_below(a, b) and not between:
                        expected.append((a, b))
            self.assertEqual(shown(order.covers), shown(expected))
            self.assertIs(Order(size, order.covers) == order, True)
        order = Order(12, [(2, 11), (2, 10), (2, 9), (9, 11), (0, 2)])
        self.assertEqual(order.covers, [(0, 2), (2, 9), (2, 10), (9, 11)])
        halves = Order(200, [(a, b) for a in range(100) for b in range(100, 200)])
        self.assertEqual(len(halves.covers), 10000)

    def test_the_questions_of_two_things(self):
        for order in SMALL_ORDERS:
            table = table_of(order)
            for a in range(order.size):
                self.gives([b for b in range(order.size) if table[a][b]], order.above, a)
                self.gives([b for b in range(order.size) if table[b][a]], order.beneath, a)
                for b in range(order.size):
                    self.gives(table[a][b], order.at_or_below, a, b)
                    self.gives(table[a][b] or table[b][a], order.comparable, a, b)

    def test_wrong_things(self):
        for order in (Order(3), chain_order(3)):
            for thing in NOT_THINGS_OF_3:
                self.refused(BadNumber(), order.above, thing)
                self.refused(BadNumber(), order.beneath, thing)
                for call in (order.at_or_below, order.comparable):
                    self.refused(BadNumber(), call, thing, 0)
                    self.refused(BadNumber(), call, 0, thing)
                    self.refused(BadNumber(), call, 2, thing)

    def test_wrong_sizes_go_first(self):
        for size in NOT_SIZES:
            self.refused(BadNumber(), Order, size)
            self.refused(BadNumber(), Order, size, None)
            self.refused(BadNumber(), Order, size, [None])

    def test_wrong_pairs(self):
        for pairs in NOT_SEQUENCES:
            self.refused(BadOrder(None), Order, 2, pairs)
        for pair in NOT_SEQUENCES + ([], (0,), [0, 1, 2], (0, 1, None), (1, 0), [1, 1], (2, 1)):
            self.refused(BadOrder(0), Order, 3, [pair])
            self.refused(BadOrder(2), Order, 3, ((0, 1), (0, 1), pair, None, (1, 0)))
        for thing in NOT_THINGS_OF_3:
            self.refused(BadOrder(1), Order, 3, [(0, 1), (thing, 2)])
            self.refused(BadOrder(1), Order, 3, [(0, 1), [0, thing], (0, thing)])
        self.refused(BadOrder(19900), Order, 200, ALL_PAIRS_OF_200 + [(5, 5)])
        self.refused(BadOrder(0), Order, 2, [(False, True)])

    def test_equality(self):
        order = Order(3, [(0, 1), (1, 2)])
        self.assertIs(order == Order(3, ([1, 2], (0, 2), [0, 1])), True)
        self.assertIs(order != Order(3, ([1, 2], (0, 2), [0, 1])), False)
        for other in (Order(4, [(0, 1), (1, 2)]), Order(3, [(0, 1)]), Order(3, [(0, 1), (0, 2)]), Order(3), Order(0)):
            self.assertIs(order == other, False)
            self.assertIs(order != other, True)
        self.assertIs(Order(0) == Order(0), True)
        self.assertIs(Order(0) == Order(1), False)

    def test_equality_with_any_value(self):
        order = Order(2, [(0, 1)])
        for other in (None, True, 2, "order", [(0, 1)], ((0, 1),), {(0, 1): True}, [3, 2], Web(2, [(0, 1)])):
            self.assertIs(order == other, False)
            self.assertIs(order != other, True)
            self.assertIs(other == order, False)
            self.assertIs(other != order, True)
        self.assertIs(Order(0) == Web(0), False)
        self.assertIs(Web(0) != Order(0), True)

    def test_small_orders_are_equal_to_themselves_alone(self):
        for i, order in enumerate(SMALL_ORDERS):
            for j, other in enumerate(SMALL_ORDERS):
                self.assertIs(order == other, i == j)
                self.assertIs(order != other, i != j)

    def test_a_later_change(self):
        pair = [0, 1]
        pairs = [pair, (1, 2)]
        order = Order(3, pairs)
        pair[1] = 2
        pairs.clear()
        self.assertIs(order == chain_order(3), True)
        for change in (order.covers, order.above(0), order.beneath(2)):
            change.append(5)
            change[0] = None
        self.assertEqual(shown([order.covers, order.above(0), order.beneath(2)]),
                         shown([[(0, 1), (1, 2)], [0, 1, 2], [0, 1, 2]]))

    def test_objects_do_not_share_state(self):
        first = Order(3, [(0, 1)])
        second = Order(3, [(1, 2)])
        answers = [table_of(first), table_of(second)]
        Order(3, [(0, 2)])
        self.assertEqual([table_of(first), table_of(second)], answers)


class MakingOrdersTest(ProgramTest):

    def test_chains_and_loose_orders(self):
        for size in (0, 1, 2, 7, 200):
            self.gives(Order(size, [(a, b) for b in range(size) for a in range(b)]), chain_order, size)
            self.gives(Order(size), loose_order, size=size)
            self.assertEqual(len(chain_order(size=size)), size)
        self.assertIs(chain_order(3).at_or_below(0, 2), True)
        self.assertIs(chain_order(3).at_or_below(2, 0), False)
        self.assertIs(loose_order(3).comparable(0, 2), False)
        self.assertIs(loose_order(3).comparable(2, 2), True)

    def test_wrong_sizes(self):
        for size in NOT_SIZES:
            self.refused(BadNumber(), chain_order, size)
            self.refused(BadNumber(), loose_order, size)


class OperatorsTest(ProgramTest):
    """Point 16, and that no operator changes its orders."""

    def made(self, make, *orders):
        before = shown(list(orders))
        answer = make(*orders)
        self.assertIs(type(answer), Order)
        self.assertIs(make(*orders) == answer, True)
        self.assertEqual(shown(list(orders)), before)
        return answer

    def test_product(self):
        for first in SMALL_ORDERS[:16]:
            for second in SMALL_ORDERS[::3]:
                both = self.made(lambda p, q: p * q, first, second)
                things = [(a, b) for a in range(first.size) for b in range(second.size)]
                self.assertEqual(table_of(both), [
                    [first.at_or_below(a, c) and second.at_or_below(b, d) for c, d in things] for a, b in things
                ])

    def test_stack(self):
        for first in SMALL_ORDERS[:16]:
            for second in SMALL_ORDERS[::3]:
                both = self.made(lambda p, q: p + q, first, second)
                rows = [row + [True] * second.size for row in table_of(first)]
                rows += [[False] * first.size + row for row in table_of(second)]
                self.assertEqual(table_of(both), rows)

    def test_beside(self):
        for first in SMALL_ORDERS[:16]:
            for second in SMALL_ORDERS[::3]:
                both = self.made(lambda p, q: p.beside(q), first, second)
                rows = [row + [False] * second.size for row in table_of(first)]
                rows += [[False] * first.size + row for row in table_of(second)]
                self.assertEqual(table_of(both), rows)

    def test_turned(self):
        for order in SMALL_ORDERS:
            turned = self.made(lambda p: -p, order)
            last = order.size - 1
            for a in range(order.size):
                for b in range(order.size):
                    self.assertIs(turned.at_or_below(a, b), order.at_or_below(last - b, last - a))
            self.assertEqual(turned.size, order.size)
            self.assertIs(-turned == order, True)

    def test_ordinary_answers(self):
        self.assertEqual((chain_order(2) * chain_order(2)).covers, [(0, 1), (0, 2), (1, 3), (2, 3)])
        self.assertEqual((chain_order(2) * loose_order(2)).covers, [(0, 2), (1, 3)])
        self.assertEqual((loose_order(2) * chain_order(2)).covers, [(0, 1), (2, 3)])
        self.assertEqual((loose_order(2) + chain_order(2)).covers, [(0, 2), (1, 2), (2, 3)])
        self.assertEqual((chain_order(2) + loose_order(2)).covers, [(0, 1), (1, 2), (1, 3)])
        self.assertEqual(loose_order(1).beside(chain_order(2)).covers, [(1, 2)])
        self.assertEqual((-Order(3, [(0, 1)])).covers, [(1, 2)])

    def test_exactly_200_things(self):
        self.assertEqual(len(chain_order(10) * chain_order(20)), 200)
        self.assertEqual(len(loose_order(1) * chain_order(200)), 200)
        self.assertEqual(len(chain_order(200) * loose_order(1)), 200)
        for first, second in ((100, 100), (0, 200), (200, 0), (1, 199)):
            self.assertIs(chain_order(first) + chain_order(second) == chain_order(200), True)
            self.assertIs(loose_order(first).beside(loose_order(second)) == loose_order(200), True)
        self.assertIs(-chain_order(200) == chain_order(200), True)
        self.assertEqual((loose_order(100) + loose_order(100)).above(0), [0] + list(range(100, 200)))

    def test_more_than_200_things(self):
        for first, second in ((3, 67), (67, 3), (2, 101), (200, 2), (200, 200)):
            self.refused(TooMany(200), lambda: chain_order(first) * loose_order(second))
        for first, second in ((100, 101), (1, 200), (200, 1), (200, 200)):
            self.refused(TooMany(200), lambda: chain_order(first) + loose_order(second))
            self.refused(TooMany(200), chain_order(first).beside, loose_order(second))

    def test_orders_without_things(self):
        none = Order(0)
        for order in (none, chain_order(3), loose_order(200)):
            self.assertEqual([len(none * order), len(order * none)], [0, 0])
            for same in (none + order, order + none, none.beside(order), order.beside(none)):
                self.assertIs(same == order, True)
        self.assertIs(-none == none, True)

    def test_beside_asks_for_an_order_first(self):
        for other in NOT_ORDERS:
            self.refused(BadOrder(None), chain_order(200).beside, other)
            self.refused(BadOrder(None), Order(0).beside, other)


class ClosedTest(ProgramTest):

    def closed_by_trial(self, order, things):
        return all(b in things for a in things for b in range(order.size) if order.at_or_below(a, b))

    def test_all_lots_of_small_orders(self):
        for order in SMALL_ORDERS:
            lots = [tuple(a for a in range(order.size) if bits >> a & 1) for bits in range(2 ** order.size)]
            for lot in lots:
                right = self.closed_by_trial(order, lot)
                self.gives(right, is_closed, order, lot)
                self.gives(right, is_closed, order, list(lot))
                greater = [other for other in lots if set(lot) <= set(other) and self.closed_by_trial(order, other)]
                least = sorted(greater, key=len)[0]
                self.gives(least, closure, order, lot)
                self.gives(least, closure, order, list(lot)[::-1] + list(lot))

    def test_by_name(self):
        order = Order(4, [(0, 1), (1, 3), (2, 3)])
        self.gives((1, 3), closure, things=[1], order=order)
        self.gives((0, 1, 2, 3), closure, things=(2, 0), order=order)
        self.gives(True, is_closed, lot=[1, 3], order=order)
        self.gives(False, is_closed, lot=[1, 2], order=order)

    def test_the_order_of_the_things(self):
        order = loose_order(12)
        self.gives((2, 9, 10), closure, order, [10, 9, 2, 9])
        self.gives(True, is_closed, order, [2, 9, 10])
        for lot in ([9, 2, 10], [2, 10, 9], [2, 2], (0, 1, 1), (1, 0)):
            self.gives(False, is_closed, order, lot)

    def test_no_things(self):
        for order in (Order(0), chain_order(200), loose_order(1)):
            for empty in ([], ()):
                self.gives((), closure, order, empty)
                self.gives(True, is_closed, order, empty)
        self.gives(False, is_closed, Order(0), [0])
        self.refused(BadThings(0), closure, Order(0), [0])

    def test_200_things(self):
        self.gives(tuple(range(200)), closure, chain_order(200), [0] * 20000)
        self.gives(tuple(range(199)), closure, loose_order(200), list(range(199)) * 2)
        self.gives(True, is_closed, chain_order(200), list(range(77, 200)))
        self.gives(False, is_closed, chain_order(200), list(range(77, 199)))
        self.gives(False, is_closed, chain_order(200), [199] * 20000)

    def test_any_value_is_judged(self):
        order = Order(3, [(0, 1)])
        for value in NOT_SEQUENCES + ([[1]], ((),), {1: 1}, [1, [2]]):
            self.gives(False, is_closed, order, value)
        for member in NOT_THINGS_OF_3:
            self.gives(False, is_closed, order, [member])
            self.gives(False, is_closed, order, (1, member))
            self.gives(False, is_closed, order, [0, member, 2])
        self.gives(True, is_closed, order, [1])
        self.gives(False, is_closed, order, [True])
        self.gives(False, is_closed, order, [False, 1])

    def test_wrong_arguments(self):
        for order in NOT_ORDERS:
            self.refused(BadOrder(None), is_closed, order, [])
            self.refused(BadOrder(None), is_closed, order, None)
            self.refused(BadOrder(None), closure, order, None)
        for things in NOT_SEQUENCES:
            self.refused(BadThings(None), closure, Order(3), things)
        for thing in NOT_THINGS_OF_3:
            self.refused(BadThings(0), closure, Order(3), [thing])
            self.refused(BadThings(2), closure, chain_order(3), (2, 1, thing, None))

    def test_a_later_change(self):
        things = [1]
        self.gives((1, 2), closure, chain_order(3), things)
        things[0] = 0
        self.gives((1,), closure, loose_order(3), [1])
        self.gives((0, 1, 2), closure, chain_order(3), things)


if __name__ == "__main__":
    unittest.main()
