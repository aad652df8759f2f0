"""Chains, loose lots, width and height: points 3 to 8 and 33, and huewalks.width."""

import unittest
from itertools import combinations, product

from huewalks.box import box
from huewalks.closedlots import tower, up
from huewalks.errors import BadOrder, TooMany
from huewalks.orders import Order, chain_order, loose_order
from huewalks.width import chain_cover, height_of, is_chain, is_chain_cover, is_loose, levels, wide_lot, width_of
from helpers import (
    HUGE, NOT_INTEGERS, NOT_ORDERS, NOT_SEQUENCES, ODD_VALUES, ProgramTest, all_small_orders, as_lists, shown, spoiled,
)

SMALL_ORDERS = all_small_orders(4)

ORDERS = SMALL_ORDERS + [
    box([2, 3]), box([2, 2, 2]), up(box([2, 2])), Order(6, [(0, 3), (0, 4), (1, 3), (1, 4), (1, 5), (2, 5)]),
    Order(7, [(0, 6), (1, 6), (2, 5), (0, 5)]), chain_order(3).beside(loose_order(2)), loose_order(3) + loose_order(2),
]

DIAMOND = box([2, 2])


def lots_of(order):
    """All sets of things, as ascending tuples."""
    return [lot for many in range(order.size + 1) for lot in combinations(range(order.size), many)]


def is_chain_by_trial(order, lot):
    return all(order.comparable(a, b) for a, b in combinations(lot, 2))


def is_loose_by_trial(order, lot):
    return not any(order.comparable(a, b) for a, b in combinations(lot, 2))


def width_by_trial(order):
    return max([len(lot) for lot in lots_of(order) if is_loose_by_trial(order, lot)])


def scattered_order(size):
    """An order of many things without a plain shape."""
    return Order(size, [(a, b) for b in range(size) for a in range(b) if (a * 7 + b * 11) % 13 == 0])


class ChainsTest(ProgramTest):

    def test_all_sequences_of_small_orders(self):
        for order in all_small_orders(3) + [DIAMOND]:
            for many in range(4):
                for things in product(range(-1, order.size + 1), repeat=many):
                    unlike = len(set(things)) == many and all(0 <= thing < order.size for thing in things)
                    for call, trial in ((is_chain, is_chain_by_trial), (is_loose, is_loose_by_trial)):
                        expected = unlike and trial(order, things)
                        self.assertIs(call(order, things), expected)
                        self.assertIs(call(order, list(things)), expected)

    def test_ordinary_answers(self):
        self.gives(True, is_chain, DIAMOND, [3, 0, 1])
        self.gives(False, is_chain, DIAMOND, (0, 1, 2))
        self.gives(True, is_chain, things=(0, 2, 3), order=DIAMOND)
        self.gives(True, is_loose, DIAMOND, [2, 1])
        self.gives(False, is_loose, things=[1, 3], order=DIAMOND)

    def test_at_most_one_thing(self):
        for order in (Order(0), Order(1), chain_order(200), loose_order(200)):
            for call in (is_chain, is_loose):
                self.gives(True, call, order, [])
                self.gives(True, call, order, ())
                for thing in range(0, order.size, 67):
                    self.gives(True, call, order, [thing])
                self.gives(False, call, order, [order.size])

    def test_200_things(self):
        self.assertIs(is_chain(chain_order(200), list(range(199, -1, -1))), True)
        self.assertIs(is_loose(chain_order(200), list(range(200))), False)
        self.assertIs(is_loose(loose_order(200), list(range(199, -1, -1))), True)
        self.assertIs(is_chain(loose_order(200), list(range(200))), False)
        for call in (is_chain, is_loose):
            self.assertIs(call(chain_order(200), [0] * 20000), False)

    def test_values_of_every_kind(self):
        for call, things in ((is_chain, [0, 1, 3]), (is_loose, (1, 2))):
            self.judges_not(ODD_VALUES, call, DIAMOND)
            self.judges_not(spoiled(things), call, DIAMOND)
            self.judges_not(([1, 1], [0, 0], (3, 3, 3), [4], [-1]), call, DIAMOND)
            for order in NOT_ORDERS:
                self.refused(BadOrder(None), call, order, None)


class CoversTest(ProgramTest):

    def test_all_small_covers(self):
        for order in all_small_orders(3):
            chains = lots_of(order) + [(0, 0), (3,)]
            for many in range(4):
                for cover in product(chains, repeat=many):
                    told = sorted([thing for chain in cover for thing in chain])
                    right = told == list(range(order.size)) and all(
                        chain and is_chain_by_trial(order, chain) for chain in cover
                    )
                    self.assertIs(is_chain_cover(order, cover), right)
                    self.assertIs(is_chain_cover(order, as_lists(cover)), right)

    def test_ordinary_answers(self):
        self.gives(True, is_chain_cover, DIAMOND, [[0, 1, 3], [2]])
        self.gives(True, is_chain_cover, chains=((2,), (3, 0, 1)), order=DIAMOND)
        self.gives(True, is_chain_cover, DIAMOND, [[3], [1], [0], [2]])
        self.gives(False, is_chain_cover, DIAMOND, [[0, 1, 2, 3]])

    def test_covers_that_miss_a_thing_or_have_one_twice(self):
        self.judges_not((
            [], [[0, 1, 3]], [[0, 1], [2]], [[0, 1, 3], [2], [2]], [[0, 1, 3], [0, 2]], [[0, 1, 3, 3], [2]],
            [[0, 1, 3], [2], [4]], [[0, 1, 3], [2, -1]], [[0, 1, 3, 2]], [0, 1, 2, 3], [[0], [1], [2]],
        ), is_chain_cover, DIAMOND)

    def test_empty_chains(self):
        self.judges_not(([[0, 1, 3], [2], []], [(), (0, 1, 3), (2,)], [[]] * 4), is_chain_cover, DIAMOND)
        self.gives(True, is_chain_cover, Order(0), [])
        self.gives(True, is_chain_cover, Order(0), ())
        self.judges_not(([[]], [()], ((), ()), [[0]]), is_chain_cover, Order(0))

    def test_many_chains(self):
        self.gives(True, is_chain_cover, loose_order(200), [[thing] for thing in range(200)])
        self.gives(True, is_chain_cover, chain_order(200), [list(range(200))])
        self.gives(False, is_chain_cover, chain_order(200), [list(range(200))] * 400)
        self.gives(False, is_chain_cover, chain_order(200), [[0]] * 20000)

    def test_values_of_every_kind(self):
        self.judges_not(ODD_VALUES, is_chain_cover, DIAMOND)
        self.judges_not(spoiled([[0, 1, 3], [2]]), is_chain_cover, DIAMOND)
        self.judges_not(spoiled(((1,), (2, 0, 3))), is_chain_cover, DIAMOND)
        for bad in NOT_SEQUENCES + (2, ["2"], [[2]], {2: 2}):
            self.gives(False, is_chain_cover, DIAMOND, [[0, 1, 3], bad])
        for thing in NOT_INTEGERS + (-1, 4, HUGE, -HUGE):
            self.gives(False, is_chain_cover, DIAMOND, [[0, 1, 3], [2, thing]])
        for order in NOT_ORDERS:
            self.refused(BadOrder(None), is_chain_cover, order, None)


class WidthTest(ProgramTest):

    def has_width(self, width, order):
        self.gives(width, width_of, order)
        lot = wide_lot(order)
        self.gives(lot, wide_lot, order=order)
        self.assertEqual(shown(lot), shown(sorted(lot)))
        self.assertEqual(len(lot), width)
        self.assertIs(is_loose(order, lot), True)
        chains = chain_cover(order)
        self.gives(chains, chain_cover, order=order)
        self.assertEqual(shown(chains), shown([sorted(chain) for chain in chains]))
        self.assertEqual(len(chains), width)
        self.assertIs(is_chain_cover(order, chains), True)

    def test_small_orders(self):
        for order in ORDERS:
            self.has_width(width_by_trial(order), order)

    def test_orders_of_0_and_1_things(self):
        self.has_width(0, Order(0))
        self.gives([], chain_cover, Order(0))
        self.gives([], wide_lot, Order(0))
        self.has_width(1, Order(1))

    def test_greater_orders(self):
        self.has_width(1, chain_order(100))
        self.has_width(100, loose_order(100))
        self.has_width(6, box([10, 6]))
        self.has_width(16, box([5, 5, 4]))
        self.has_width(35, box([2, 2, 2]) + loose_order(35))
        self.has_width(20, box([2] * 6))
        self.has_width(2, chain_order(50).beside(chain_order(50)))
        self.has_width(50, loose_order(50) + loose_order(50))
        self.has_width(4, tower(3, [2, 2, 2]))

    def test_orders_without_a_plain_shape(self):
        for size in (12, 14):
            self.has_width(width_by_trial(scattered_order(size)), scattered_order(size))
        for size in (99, 100):
            # A loose lot of as many things as a chain cover has chains shows that both are right.
            self.has_width(len(wide_lot(scattered_order(size))), scattered_order(size))

    def test_the_chains_are_linked_anew_where_need_be(self):
        # The first thing takes the only thing above the second one first.
        self.has_width(2, Order(4, [(0, 2), (0, 3), (1, 2)]))
        zigzag = [(a, 50 + a) for a in range(50)] + [(a, 51 + a) for a in range(49)]
        self.has_width(50, Order(100, zigzag))
        back = [(a, 99 - a) for a in range(50)] + [(a, 98 - a) for a in range(49)]
        self.has_width(50, Order(100, back))

    def test_more_than_100_things(self):
        for order in (chain_order(101), loose_order(101), chain_order(200), loose_order(200), box([2, 51])):
            for call in (width_of, wide_lot, chain_cover):
                self.refused(TooMany(100), call, order)

    def test_wrong_orders(self):
        for order in NOT_ORDERS:
            for call in (width_of, wide_lot, chain_cover, levels, height_of):
                self.refused(BadOrder(None), call, order)

    def test_a_later_change(self):
        before = shown([chain_cover(DIAMOND), wide_lot(DIAMOND), levels(DIAMOND)])
        for chain in chain_cover(DIAMOND):
            chain.clear()
        chain_cover(DIAMOND).clear()
        wide_lot(DIAMOND).clear()
        levels(DIAMOND).clear()
        chain_cover(chain_order(4))
        wide_lot(loose_order(4))
        self.assertEqual(shown([chain_cover(DIAMOND), wide_lot(DIAMOND), levels(DIAMOND)]), before)


class LevelsTest(ProgramTest):

    def test_small_orders(self):
        for order in ORDERS:
            chains = [lot for lot in lots_of(order) if is_chain_by_trial(order, lot)]
            expected = []
            for thing in range(order.size):
                below = [lot for lot in chains if thing in lot and all(order.at_or_below(a, thing) for a in lot)]
                expected.append(max([len(lot) for lot in below]) - 1)
            self.gives(expected, levels, order)
            self.gives(max([len(lot) for lot in chains]), height_of, order)

    def test_ordinary_answers(self):
        self.gives([0, 1, 1, 2], levels, DIAMOND)
        self.gives(3, height_of, order=DIAMOND)
        self.gives([0, 0, 1, 0, 2], levels, order=Order(5, [(0, 2), (1, 2), (2, 4), (3, 4)]))

    def test_no_limit_below_200(self):
        self.gives([], levels, Order(0))
        self.gives(0, height_of, Order(0))
        self.gives([0], levels, Order(1))
        self.gives(1, height_of, Order(1))
        self.gives(list(range(200)), levels, chain_order(200))
        self.gives(200, height_of, chain_order(200))
        self.gives([0] * 200, levels, loose_order(200))
        self.gives(1, height_of, loose_order(200))
        self.gives(29, height_of, box([10, 20]))


if __name__ == "__main__":
    unittest.main()
