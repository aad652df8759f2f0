"""Layings of orders on orders: points 3 to 8, 40 and 41, and huewalks.higher."""

import unittest
from itertools import permutations, product

from huewalks.box import box, box_rows
from huewalks.closedlots import lots, tower, up
from huewalks.errors import BadBounds, BadLaying, BadNumber, BadOrder, BadThings, BadWeb, TooMany
from huewalks.higher import (
    is_order_laying, lifted_map, next_span_laying, parted_map, principal_map, renamed_map, tower_map, wider_map,
)
from huewalks.huelay import hueing_of, laying_of
from huewalks.lay import find_laying, is_laying, is_web_laying, laying_after
from huewalks.linewebs import order_web
from huewalks.orders import Order, chain_order, loose_order
from huewalks.roads import keeps_bounds
from huewalks.webs import Web, path_web, ring_web, row_web, two_way_web
from helpers import (
    HUGE, NOT_INTEGERS, NOT_ORDERS, NOT_SEQUENCES, NOT_SPANS, NOT_WEBS, ODD_VALUES, TOWERS_OF_200, TOWERS_OF_MORE,
    WRONG_BOUNDS, ProgramTest, all_small_orders, all_small_webs, hub_web, shown, spoiled,
)

ORDERS = all_small_orders(3) + [box([2, 2]), chain_order(5), loose_order(4), Order(5, [(0, 2), (1, 2), (2, 4), (1, 3)])]

BOXES_OF_MORE = ([3, 67], (200, 2), [200] * 8, [2] * 8, [7, 29])

NOT_BOUND_NUMBERS = NOT_INTEGERS + (0, -1, 201, HUGE, -HUGE)

WIDE = two_way_web(3, [(0, 1), (1, 2)])


def is_order_laying_by_trial(order, target, laying):
    """The words of point 40."""
    for x in range(order.size):
        for y in range(order.size):
            if target.at_or_below(laying[y], laying[x]) and not order.at_or_below(y, x):
                return False
    return True


def all_order_layings(order, target):
    """All order layings, ascending."""
    found = product(range(target.size), repeat=order.size)
    return [list(laying) for laying in found if is_order_laying_by_trial(order, target, laying)]


def lifted_by_trial(order, target, laying):
    """The lifted laying, by the words of point 40."""
    listed = lots(target)
    answer = []
    for lot in lots(order):
        closed = [b for b in range(target.size) if any(target.at_or_below(laying[thing], b) for thing in lot)]
        answer.append(listed.index(tuple(closed)))
    return answer


class OrderLayingTest(ProgramTest):

    def test_all_layings_of_small_orders(self):
        for order in ORDERS[:12]:
            for target in ORDERS[:12] + [box([2, 2])]:
                for laying in product(range(-1, target.size + 1), repeat=order.size):
                    within = all(0 <= thing < target.size for thing in laying)
                    expected = within and is_order_laying_by_trial(order, target, laying)
                    self.assertIs(is_order_laying(order, target, laying), expected)
                    self.assertIs(is_order_laying(order, target, list(laying)), expected)

    def test_it_is_a_laying_of_the_web_of_the_order(self):
        for order in ORDERS[:12]:
            for target in ORDERS[:12]:
                for laying in product(range(target.size), repeat=order.size):
                    expected = is_web_laying(order_web(order), order_web(target), laying)
                    self.assertIs(is_order_laying(order, target, laying), expected)
                    self.assertIs(is_laying(order_web(order), target, laying), expected)

    def test_ordinary_answers(self):
        self.gives(True, is_order_laying, chain_order(2), loose_order(2), [1, 0])
        self.gives(False, is_order_laying, loose_order(2), chain_order(2), [0, 1])
        self.gives(True, is_order_laying, laying=(0, 2), target=chain_order(3), order=chain_order(2))
        self.gives(False, is_order_laying, chain_order(2), chain_order(3), [2, 0])
        self.gives(False, is_order_laying, chain_order(2), chain_order(3), [1, 1])
        self.gives(True, is_order_laying, Order(0), Order(0), [])
        self.gives(True, is_order_laying, Order(0), Order(5), ())
        self.gives(False, is_order_laying, Order(1), Order(0), [0])
        self.gives(True, is_order_laying, Order(1), Order(2), [1])
        self.gives(True, is_order_laying, loose_order(200), loose_order(200), list(range(199, -1, -1)))
        self.gives(False, is_order_laying, chain_order(200), chain_order(200), list(range(199, -1, -1)))

    def test_two_layings_behind_one_another(self):
        orders = ORDERS[:8] + [box([2, 2])]
        for first in orders:
            for second in orders:
                for third in orders[::2]:
                    for one in all_order_layings(first, second)[:4]:
                        for two in all_order_layings(second, third)[:4]:
                            self.gives(True, is_order_laying, first, third, laying_after(one, two))

    def test_wrong_arguments_and_values(self):
        for order in NOT_ORDERS:
            self.refused(BadOrder(None), is_order_laying, order, None, None)
            self.refused(BadOrder(None), is_order_laying, order, Order(1), None)
            self.refused(BadOrder(None), is_order_laying, Order(1), order, None)
            self.refused(BadOrder(None), lifted_map, order, None, None)
            self.refused(BadOrder(None), lifted_map, loose_order(20), order, None)
            self.refused(BadOrder(None), principal_map, order)
        self.judges_not(ODD_VALUES, is_order_laying, chain_order(3), chain_order(4))
        self.judges_not(spoiled([0, 1, 2]), is_order_laying, chain_order(3), chain_order(3))
        self.judges_not(([0, 1], [0, 1, 2, 3], [], [[0, 1, 2]]), is_order_laying, chain_order(3), chain_order(4))


class WiderTest(ProgramTest):

    def test_small_boxes(self):
        for bounds in ([1], [2], (3,), [2, 2], [1, 3], (2, 1, 2)):
            for more in ([1], [3], [2, 2], (3, 2), [2, 3, 2], (4, 3, 2), [2, 2, 2, 2], [3, 3, 3, 1, 1, 1, 1, 1]):
                if len(more) < len(bounds) or any(m < b for b, m in zip(bounds, more)):
                    continue
                rows = box_rows(more)
                expected = [rows.index(row + (0,) * (len(more) - len(bounds))) for row in box_rows(bounds)]
                self.gives(expected, wider_map, bounds, more)
                self.gives(True, is_order_laying, box(bounds), box(more), expected)

    def test_ordinary_answers(self):
        self.gives([0, 1, 2, 3], wider_map, [2, 2], [2, 2])
        self.gives([0, 1, 3, 4], wider_map, more=(2, 3), bounds=(2, 2))
        self.gives([0, 2], wider_map, [2], [2, 2])
        self.gives([0], wider_map, [1], [1] * 8)
        self.gives([0], wider_map, [1] * 8, [2, 2, 2, 2, 2, 2, 3, 1])
        self.gives([0], wider_map, [1], [200])
        self.gives(list(range(200)), wider_map, [200], [200, 1, 1])

    def test_boxes_of_exactly_200_rows_and_of_more(self):
        self.gives(list(range(200)), wider_map, [2, 10, 10], [2, 10, 10])
        self.gives(list(range(0, 200, 2)), wider_map, [100], [100, 2])
        self.refused(TooMany(200), wider_map, [100], [101, 2])
        self.refused(TooMany(200), wider_map, [2, 10, 10], [2, 10, 11])
        for bounds in BOXES_OF_MORE:
            for more in (None, [], [1], [0], bounds):
                self.refused(TooMany(200), wider_map, bounds, more)

    def test_the_order_of_the_checks(self):
        for bounds, bad_at in WRONG_BOUNDS:
            self.refused(BadBounds(bad_at), wider_map, bounds, None)
            self.refused(BadBounds(bad_at), wider_map, [2], bounds)
        # A wrong member is named even where there are too few members.
        for member in NOT_BOUND_NUMBERS:
            self.refused(BadBounds(0), wider_map, [2, 2], [member])
            self.refused(BadBounds(1), wider_map, [9, 2, 2], (1, member))
        self.refused(BadBounds(None), wider_map, [2, 2], [1])
        self.refused(BadBounds(None), wider_map, [2, 2], [200])
        self.refused(BadBounds(None), wider_map, [3, 2, 2], [2, 200])
        self.refused(BadBounds(0), wider_map, [2, 2], [1, 1])
        self.refused(BadBounds(1), wider_map, [2, 2], [200, 1, 200])
        self.refused(BadBounds(2), wider_map, (2, 2, 3), (2, 2, 2, 200))
        self.refused(TooMany(200), wider_map, [2, 2], [200, 2])


class PartedTest(ProgramTest):

    def test_small_boxes(self):
        for bounds in ([4], [1], [6, 2], (2, 6), [2, 4, 3], [1, 1, 12], [2, 2, 2, 2, 2, 2, 2]):
            for hue, bound in enumerate(bounds):
                for first in range(1, bound + 1):
                    if bound % first:
                        continue
                    second = bound // first
                    parted = [*bounds[:hue], first, second, *bounds[hue + 1:]]
                    rows = box_rows(parted)
                    expected = [
                        rows.index((*row[:hue], row[hue] // second, row[hue] % second, *row[hue + 1:]))
                        for row in box_rows(bounds)
                    ]
                    self.gives(expected, parted_map, bounds, hue, first, second)
                    self.gives(True, is_order_laying, box(bounds), box(parted), expected)

    def test_ordinary_answers(self):
        self.gives(list(range(12)), parted_map, second=2, first=3, hue=0, bounds=(6, 2))
        self.gives(list(range(200)), parted_map, [200], 0, 1, 200)
        self.gives(list(range(200)), parted_map, [200], 0, 200, 1)
        self.gives(list(range(200)), parted_map, [2, 100], 1, 10, 10)
        self.gives([0], parted_map, [1] * 7, 6, 1, 1)

    def test_the_order_of_the_checks(self):
        for bounds, bad_at in WRONG_BOUNDS:
            self.refused(BadBounds(bad_at), parted_map, bounds, None, None, None)
        for bounds in BOXES_OF_MORE:
            self.refused(TooMany(200), parted_map, bounds, None, None, None)
            self.refused(TooMany(200), parted_map, bounds, 0, 1, bounds[0])
        for hue in NOT_INTEGERS + (-1, 2, 7, HUGE, -HUGE):
            self.refused(BadNumber(), parted_map, [4, 4], hue, None, None)
            self.refused(BadNumber(), parted_map, [4, 4], hue, 2, 2)
        for number in NOT_BOUND_NUMBERS:
            self.refused(BadNumber(), parted_map, [4, 4], 0, number, 4)
            self.refused(BadNumber(), parted_map, [4, 4], 1, 2, number)
        self.refused(BadBounds(1), parted_map, [4, 6], 1, 2, 2)
        self.refused(BadBounds(0), parted_map, [4, 6], 0, 200, 200)
        # The number of bounds goes last.
        eight = [2, 1, 1, 1, 1, 1, 1, 6]
        self.refused(BadNumber(), parted_map, eight, 8, 1, 1)
        self.refused(BadNumber(), parted_map, eight, 7, 2, 0)
        self.refused(BadBounds(7), parted_map, eight, 7, 2, 2)
        self.refused(BadBounds(None), parted_map, eight, 7, 2, 3)
        self.refused(BadBounds(None), parted_map, [1] * 8, 0, 1, 1)


class RenamedTest(ProgramTest):

    def test_all_ways(self):
        for bounds in ([3], [2, 3], (1, 4), [2, 3, 2], [1, 2, 1, 3]):
            for sources in permutations(range(len(bounds))):
                renamed = [bounds[source] for source in sources]
                rows = box_rows(renamed)
                expected = [rows.index(tuple([row[source] for source in sources])) for row in box_rows(bounds)]
                self.gives(expected, renamed_map, bounds, sources)
                self.gives(expected, renamed_map, bounds, list(sources))
                self.gives(True, is_order_laying, box(bounds), box(renamed), expected)

    def test_ordinary_answers(self):
        self.gives([0, 2, 4, 1, 3, 5], renamed_map, [2, 3], [1, 0])
        self.gives([0, 1, 2], renamed_map, sources=(0,), bounds=(3,))
        self.gives([0, 1], renamed_map, [1] * 7 + [2], [7, 6, 5, 4, 3, 2, 1, 0][::-1])
        self.gives([0, 1], renamed_map, [1] * 7 + [2], [7, 6, 5, 4, 3, 2, 1, 0])
        # Entry 1 of the new row is entry 0 of the old one.
        self.gives([0, 3, 1, 4, 2, 5, 6, 9, 7, 10, 8, 11], renamed_map, [2, 3, 2], [0, 2, 1])
        self.gives(list(range(200)), renamed_map, [2, 10, 10], [0, 1, 2])

    def test_the_order_of_the_checks(self):
        for bounds, bad_at in WRONG_BOUNDS:
            self.refused(BadBounds(bad_at), renamed_map, bounds, None)
        for bounds in BOXES_OF_MORE:
            self.refused(TooMany(200), renamed_map, bounds, None)
            self.refused(TooMany(200), renamed_map, bounds, list(range(len(bounds))))
        for sources in NOT_SEQUENCES + ([], [0], (0, 1), [0, 1, 2, 3], [None] * 4):
            self.refused(BadThings(None), renamed_map, [2, 3, 2], sources)
        for source in NOT_INTEGERS + (-1, 3, HUGE, -HUGE):
            self.refused(BadThings(0), renamed_map, [2, 3, 2], [source, source, None])
            self.refused(BadThings(2), renamed_map, [2, 3, 2], (2, 0, source))
        self.refused(BadThings(1), renamed_map, [2, 3, 2], [0, 0, 0])
        self.refused(BadThings(2), renamed_map, [2, 3, 2], (0, 2, 0))


class PrincipalTest(ProgramTest):

    def test_small_orders(self):
        for order in ORDERS:
            listed = lots(order)
            expected = [listed.index(tuple(order.above(thing))) for thing in range(order.size)]
            self.gives(expected, principal_map, order)
            self.gives(True, is_order_laying, order, up(order), expected)

    def test_ordinary_answers(self):
        self.gives([], principal_map, Order(0))
        self.gives([0], principal_map, order=Order(1))
        self.gives([0, 1, 2], principal_map, chain_order(3))
        self.gives([1, 2], principal_map, loose_order(2))
        self.gives([0, 2, 3, 4], principal_map, box([2, 2]))

    def test_up_of_exactly_200_things_and_of_more(self):
        self.gives(list(range(199)), principal_map, chain_order(199))
        for order in (chain_order(200), loose_order(8), box([4, 6]), loose_order(200)):
            self.refused(TooMany(200), principal_map, order)
        self.assertEqual(len(principal_map(box([2] * 4))), 16)


class LiftedTest(ProgramTest):

    def test_all_layings_of_small_orders(self):
        for order in ORDERS[:12]:
            for target in ORDERS[:12] + [box([2, 2])]:
                for laying in all_order_layings(order, target):
                    expected = lifted_by_trial(order, target, laying)
                    self.assertEqual(shown(lifted_map(order, target, laying)), shown(expected))
                    self.assertEqual(shown(lifted_map(order, target, tuple(laying))), shown(expected))
                    self.assertIs(is_order_laying(up(order), up(target), expected), True)

    def test_two_steps_and_one(self):
        # The lot of the two steps has every thing of the lot of the one step, and perhaps more.
        unlike = 0
        for first in ORDERS[:12]:
            for second in ORDERS[:12]:
                for third in ORDERS[:12]:
                    for one in all_order_layings(first, second)[:3]:
                        for two in all_order_layings(second, third)[:3]:
                            at_once = lifted_map(first, third, laying_after(one, two))
                            behind = laying_after(lifted_map(first, second, one), lifted_map(second, third, two))
                            for a, b in zip(at_once, behind):
                                self.assertTrue(set(lots(third)[a]) <= set(lots(third)[b]))
                            unlike += at_once != behind
        self.assertGreater(unlike, 0)

    def test_ordinary_answers(self):
        self.gives([0, 2, 3], lifted_map, chain_order(2), chain_order(3), [0, 2])
        self.gives([0, 2, 3], lifted_map, laying=(0, 2), target=chain_order(3), order=chain_order(2))
        self.gives([0, 2, 3], lifted_map, chain_order(2), loose_order(2), [0, 1])
        self.gives([0, 1, 3], lifted_map, chain_order(2), loose_order(2), [1, 0])
        self.gives([0], lifted_map, Order(0), Order(0), [])
        self.gives([3], lifted_map, Order(0), chain_order(3), ())

    def test_the_two_limits(self):
        self.gives(list(range(200)), lifted_map, chain_order(199), chain_order(199), list(range(199)))
        self.gives([0, 199], lifted_map, Order(1), chain_order(199), [0])
        for order in (chain_order(200), loose_order(8), loose_order(200)):
            self.refused(TooMany(200), lifted_map, order, Order(1), None)
            self.refused(TooMany(200), lifted_map, Order(1), order, None)
            self.refused(TooMany(200), lifted_map, order, order, list(range(len(order))))
            self.refused(TooMany(200), lifted_map, Order(0), order, [])

    def test_wrong_layings(self):
        for laying in NOT_SEQUENCES + ([], [0], (0, 1, 2), [None] * 3):
            self.refused(BadLaying(None), lifted_map, chain_order(2), chain_order(3), laying)
        for thing in NOT_INTEGERS + (-1, 3, HUGE, -HUGE):
            self.refused(BadLaying(0), lifted_map, chain_order(2), chain_order(3), [thing, None])
            self.refused(BadLaying(1), lifted_map, chain_order(2), chain_order(3), (2, thing))
        self.refused(BadLaying(None), lifted_map, chain_order(2), chain_order(3), [2, 0])
        self.refused(BadLaying(None), lifted_map, chain_order(2), chain_order(3), [1, 1])
        self.refused(BadLaying(None), lifted_map, loose_order(2), chain_order(2), [0, 1])
        self.refused(BadLaying(0), lifted_map, Order(1), Order(0), [0])


class TowerMapTest(ProgramTest):

    def test_small_towers(self):
        for span in range(2, 7):
            for bounds, more in (
                ([1], [1]), ([1], [4]), ([2], [2, 1]), ([2], [3]), ((1, 2), (2, 2)), ([2, 2], [2, 2]), ([1], [1] * 8),
                ([1, 1], [1, 3, 1]), ([3], [3, 1]),
            ):
                laying = wider_map(bounds, more)
                order, target = box(bounds), box(more)
                for _ in range(span - 2):
                    laying = lifted_map(order, target, laying)
                    order, target = up(order), up(target)
                self.gives(laying, tower_map, span, bounds, more)
                self.gives(True, is_order_laying, tower(span, bounds), tower(span, more), laying)

    def test_ordinary_answers(self):
        self.gives([0, 1, 3, 4], tower_map, 2, [2, 2], [2, 3])
        self.gives([0, 3, 5], tower_map, more=(2, 2), bounds=(2, 1), span=3)
        self.gives(list(range(20)), tower_map, 3, [2, 2, 2], [2, 2, 2])

    def test_towers_of_exactly_200_things_and_of_more(self):
        for span, bounds in TOWERS_OF_200:
            size = len(tower(span, bounds))
            self.assertEqual(tower_map(span, bounds, bounds), list(range(size)))
            self.assertEqual(len(tower_map(span, [1], bounds)), span - 1)
        for span, bounds in TOWERS_OF_MORE:
            for more in (None, [0], bounds):
                self.refused(TooMany(200), tower_map, span, bounds, more)
            self.refused(TooMany(200), tower_map, span, [1], bounds)

    def test_the_order_of_the_checks(self):
        for span in NOT_SPANS:
            self.refused(BadNumber(), tower_map, span, None, None)
        for bounds, bad_at in WRONG_BOUNDS:
            self.refused(BadBounds(bad_at), tower_map, 3, bounds, None)
            self.refused(BadBounds(bad_at), tower_map, 3, [2], bounds)
        for member in NOT_BOUND_NUMBERS:
            self.refused(BadBounds(0), tower_map, 4, [2, 2], [member])
        self.refused(BadBounds(None), tower_map, 4, [2, 2], [200])
        self.refused(BadBounds(1), tower_map, 4, [2, 2], [200, 1])
        self.refused(TooMany(200), tower_map, 4, [2, 2], [200, 2])


class NextSpanTest(ProgramTest):

    def test_all_layings_of_small_webs(self):
        webs = all_small_webs(2) + [row_web(3), path_web(3), WIDE, ring_web(3)]
        for span in range(2, 6):
            for bounds in ([2], [2, 2]) if span < 4 else ([1], [2], [3]):
                order, higher = tower(span, bounds), tower(span + 1, bounds)
                principal = principal_map(order)
                for web in webs:
                    for laying in product(range(order.size), repeat=web.places):
                        if not is_laying(web, order, laying):
                            continue
                        expected = [principal[thing] for thing in laying]
                        self.assertEqual(shown(next_span_laying(web, span, bounds, laying)), shown(expected))
                        self.assertIs(is_laying(web, higher, expected), True)

    def test_ordinary_answers(self):
        self.gives([0, 2, 4], next_span_laying, row_web(3), 2, [2, 2], [0, 1, 3])
        self.gives([0, 2, 4], next_span_laying, laying=(0, 1, 3), bounds=(2, 2), span=2, web=row_web(3))
        self.gives([], next_span_laying, Web(0), 5, [1], [])
        self.gives([3, 3], next_span_laying, Web(2), 5, [1], [3, 3])

    def test_the_next_span_has_more_room(self):
        for span in range(2, 6):
            places = len(tower(span, [2]))
            laying = next_span_laying(row_web(places), span, [2], list(range(places)))
            hues = hueing_of(row_web(places), span + 1, [2], laying)
            self.assertIs(keeps_bounds(row_web(places), span + 1, [2], hues), True)

    def test_towers_of_exactly_200_things_and_of_more(self):
        for span, bounds in TOWERS_OF_200:
            if span > 2:
                self.assertEqual(len(next_span_laying(path_web(2), span - 1, bounds, [0, 1])), 2)
        for span, bounds in TOWERS_OF_MORE:
            if span > 2:
                self.refused(TooMany(200), next_span_laying, path_web(2), span - 1, bounds, None)
                self.refused(TooMany(200), next_span_laying, Web(0), span - 1, bounds, [])
        self.refused(TooMany(200), next_span_laying, Web(0), 2, [200], [])
        self.refused(TooMany(200), next_span_laying, Web(0), 5, [196, 2], [])

    def test_the_order_of_the_checks(self):
        for web in NOT_WEBS:
            self.refused(BadWeb(None), next_span_laying, web, None, None, None)
        for span in NOT_SPANS + (6,):
            self.refused(BadNumber(), next_span_laying, hub_web(69, 29), span, None, None)
        # The limit on walks is the one of this span, not of the next one.
        self.refused(TooMany(2000), next_span_laying, hub_web(69, 29), 3, None, None)
        self.refused(BadBounds(None), next_span_laying, hub_web(69, 29), 2, None, None)
        web = hub_web(69, 29, 2)
        self.assertEqual(len(next_span_laying(web, 3, [3], [0] * 69 + [3] * 29 + [1, 2])), 100)
        self.refused(TooMany(2000), next_span_laying, web, 4, None, None)
        for bounds, bad_at in WRONG_BOUNDS:
            self.refused(BadBounds(bad_at), next_span_laying, path_web(2), 3, bounds, None)

    def test_wrong_layings(self):
        for laying in NOT_SEQUENCES + ([], [0], (0, 1, 2), [None] * 3):
            self.refused(BadLaying(None), next_span_laying, path_web(2), 2, [2, 2], laying)
        for thing in NOT_INTEGERS + (-1, 4, HUGE, -HUGE):
            self.refused(BadLaying(0), next_span_laying, path_web(2), 2, [2, 2], [thing, None])
            self.refused(BadLaying(1), next_span_laying, path_web(2), 2, [2, 2], (3, thing))
        self.refused(BadLaying(None), next_span_laying, path_web(2), 2, [2, 2], [3, 0])
        self.refused(BadLaying(None), next_span_laying, ring_web(1), 2, [2, 2], [1])

    def test_wider_bounds_and_parted_bounds(self):
        web = row_web(4)
        laying = laying_of(web, 3, [2, 2], [0, 0, 0, 1])
        wider = laying_after(laying, tower_map(3, [2, 2], [3, 2]))
        self.gives(True, is_laying, web, tower(3, [3, 2]), wider)
        laying = find_laying(web, box([4]))
        self.gives(True, is_laying, web, box([2, 2]), laying_after(laying, parted_map([4], 0, 2, 2)))


class CallsInBetweenTest(ProgramTest):

    def answers(self):
        return shown([
            wider_map([2, 2], [2, 3]), parted_map([4], 0, 2, 2), renamed_map([2, 3], [1, 0]), principal_map(box([2, 2])),
            lifted_map(chain_order(2), chain_order(3), [0, 2]), tower_map(3, [2, 1], [2, 2]),
            next_span_laying(row_web(3), 2, [2, 2], [0, 1, 3]), is_order_laying(box([2]), box([3]), [0, 1]),
        ])

    def test_equal_calls_give_equal_answers(self):
        before = self.answers()
        for order in ORDERS:
            principal_map(order)
        tower_map(4, [2, 2], [2, 3])
        self.assertEqual(self.answers(), before)

    def test_a_later_change(self):
        before = self.answers()
        for answer in (
            wider_map([2, 2], [2, 3]), parted_map([4], 0, 2, 2), renamed_map([2, 3], [1, 0]),
            principal_map(box([2, 2])), tower_map(3, [2, 1], [2, 2]), tower_map(2, [2], [2]),
        ):
            answer.clear()
        self.assertEqual(self.answers(), before)
        bounds = [2, 2]
        self.gives([0, 1, 3, 4], wider_map, bounds, [2, 3])
        bounds[1] = 3
        self.gives([0, 1, 2, 3, 4, 5], wider_map, bounds, [2, 3])


if __name__ == "__main__":
    unittest.main()
