"""Layings of a web on an order or a web: points 3 to 6 and 25, and huewalks.lay without its refusals."""

import unittest
from itertools import product

from huewalks.box import box
from huewalks.closedlots import up
from huewalks.errors import BadHueing, BadLaying, BadNumber, BadOrder, BadThings, BadWeb, TooMany
from huewalks.lay import bad_arrow, find_laying, is_laying, is_web_laying, laying_after, pull_hues
from huewalks.linewebs import order_web
from huewalks.orders import Order, chain_order, loose_order
from huewalks.walks import all_walks
from huewalks.webs import Web, beside_web, path_web, ring_web, row_web, two_way_web
from helpers import (
    HUGE, NOT_INTEGERS, NOT_ORDERS, NOT_SEQUENCES, NOT_SPANS, NOT_WEBS, ODD_VALUES, ProgramTest, all_small_orders,
    all_small_webs, as_lists, hub_web, shown, spoiled,
)

SMALL_WEBS = all_small_webs(2) + all_small_webs(3)[20::29] + [row_web(4), ring_web(4)]
SMALL_ORDERS = all_small_orders(3) + [box([2, 2])]


def kept_by_trial(web, order, things):
    """The arrows of the web that are kept."""
    return [(u, v) for u, v in web if not order.at_or_below(things[v], things[u])]


def layings_by_trial(web, order):
    """All layings, ascending."""
    return [list(things) for things in product(range(order.size), repeat=web.places)
            if kept_by_trial(web, order, things) == web.arrows]


class IsLayingTest(ProgramTest):

    def test_all_small_layings(self):
        for web in SMALL_WEBS:
            for order in SMALL_ORDERS:
                for things in product(range(order.size), repeat=web.places):
                    kept = kept_by_trial(web, order, things)
                    least = [arrow for arrow in web.arrows if arrow not in kept][:1]
                    self.assertIs(is_laying(web, order, things), least == [])
                    self.assertIs(is_laying(web, order, list(things)), least == [])
                    self.assertEqual(shown(bad_arrow(web, order, things)), shown(least[0] if least else None))

    def test_it_is_a_web_laying_on_the_web_of_the_order(self):
        for web in SMALL_WEBS[::3]:
            for order in SMALL_ORDERS[::3]:
                for things in product(range(order.size), repeat=web.places):
                    self.assertIs(is_web_laying(web, order_web(order), things), is_laying(web, order, things))

    def test_ordinary_answers(self):
        self.gives(True, is_laying, row_web(3), chain_order(3), [0, 1, 2])
        self.gives(True, is_laying, laying=(2, 0, 1), order=loose_order(3), web=row_web(3))
        self.gives(False, is_laying, row_web(3), chain_order(3), (0, 2, 1))
        self.gives(True, is_laying, Web(3, [(0, 2), (1, 2)]), chain_order(9), [4, 4, 8])
        self.gives((1, 2), bad_arrow, row_web(3), chain_order(3), [0, 2, 1])
        self.gives((0, 2), bad_arrow, things=(1, 2, 1), order=chain_order(3), web=row_web(3))
        self.gives(None, bad_arrow, row_web(3), chain_order(3), [0, 1, 2])
        self.gives((0, 1), bad_arrow, Web(2, [(1, 0), (0, 1)]), chain_order(2), [1, 0])

    def test_webs_without_places_and_orders_without_things(self):
        for order in (Order(0), Order(1), loose_order(200)):
            self.gives(True, is_laying, Web(0), order, [])
            self.gives(True, is_laying, Web(0), order, ())
            self.gives(None, bad_arrow, Web(0), order, [])
            self.gives([], find_laying, Web(0), order)
        self.gives(True, is_web_laying, Web(0), Web(0), [])
        self.gives(False, is_laying, Web(1), Order(0), [0])
        self.gives(False, is_laying, Web(1), Order(0), [])
        self.gives(None, find_laying, Web(1), Order(0))
        self.gives(None, find_laying, row_web(13), Order(0))
        self.refused(BadThings(0), bad_arrow, Web(1), Order(0), [0])

    def test_loops_are_never_kept(self):
        web = Web(2, [(1, 1)])
        for order in (chain_order(3), loose_order(3)):
            for thing in range(3):
                self.gives(False, is_laying, web, order, [0, thing])
                self.gives((1, 1), bad_arrow, web, order, [0, thing])
            self.gives(None, find_laying, web, order)
        self.gives(True, is_web_laying, web, ring_web(1), [0, 0])
        self.gives(True, is_web_laying, web, web, [0, 1])
        self.gives(False, is_web_laying, web, web, [1, 0])

    def test_more_than_2000_arrows_of_the_order_are_no_hindrance(self):
        self.gives(True, is_laying, row_web(60), chain_order(200), list(range(140, 200)))
        self.gives(True, is_laying, path_web(2000), loose_order(200), [i % 200 for i in range(2000)])
        self.gives((198, 199), bad_arrow, path_web(2000), chain_order(199), list(range(199)) + [0] * 1801)

    def test_web_layings_on_great_webs(self):
        self.gives(True, is_web_laying, path_web(2000), ring_web(2000), [(i + 7) % 2000 for i in range(2000)])
        self.gives(False, is_web_laying, path_web(2000), path_web(2000), [(i + 7) % 2000 for i in range(2000)])
        self.gives(True, is_web_laying, laying=[1, 0, 1], onto=two_way_web(2, [(0, 1)]), web=path_web(3))

    def test_judged_values_of_every_kind(self):
        self.judges_not(ODD_VALUES, is_laying, row_web(3), chain_order(3))
        self.judges_not(ODD_VALUES, is_web_laying, row_web(3), row_web(3))
        self.judges_not(spoiled([0, 1, 2]), is_laying, row_web(3), chain_order(3))
        self.judges_not(spoiled((0, 1, 2)), is_web_laying, row_web(3), row_web(3))
        self.judges_not(spoiled((0, 1)), is_laying, Web(2), loose_order(2))
        self.judges_not(([3, 4, 5], [0, 1], [0, 1, 2, 2], [0, 1, 3]), is_laying, row_web(3), chain_order(3))
        self.judges_not(([3, 4, 5], [0, 1], [0, 1, 2, 2], [0, 1, 3]), is_web_laying, row_web(3), row_web(3))
        # Without arrows only the kinds and the ranges of the members tell.
        self.gives(True, is_web_laying, Web(2), Web(3), [2, 2])
        self.judges_not(([0, 3], [-1, 0], [True, 0]), is_web_laying, Web(2), Web(3))
        self.judges_not(([0, 3], [-1, 0], [True, 0]), is_laying, Web(2), loose_order(3))

    def test_wrong_arguments(self):
        for web in NOT_WEBS:
            self.refused(BadWeb(None), is_laying, web, None, None)
            self.refused(BadWeb(None), is_web_laying, web, None, None)
            self.refused(BadWeb(None), is_web_laying, web, Web(1), [0])
            self.refused(BadWeb(None), is_web_laying, Web(1), web, None)
            self.refused(BadWeb(None), bad_arrow, web, None, None)
        for order in NOT_ORDERS:
            self.refused(BadOrder(None), is_laying, Web(1), order, None)
            self.refused(BadOrder(None), bad_arrow, Web(1), order, None)
        for things in NOT_SEQUENCES + ([], [0], (0, 1, 2), [None], [5, 5, 5]):
            self.refused(BadThings(None), bad_arrow, path_web(2), chain_order(2), things)
        for thing in NOT_INTEGERS + (-1, 2, HUGE, -HUGE):
            self.refused(BadThings(0), bad_arrow, path_web(2), chain_order(2), [thing, None])
            self.refused(BadThings(2), bad_arrow, path_web(4), chain_order(2), (1, 0, thing, 7))


class LayingAfterTest(ProgramTest):

    def test_ordinary_answers(self):
        self.gives([7, 5, 7, 9], laying_after, [1, 0, 1, 2], [5, 7, 9])
        self.gives([0, 0], laying_after, second=(0,), first=(0, 0))
        self.gives([], laying_after, [], [])
        self.gives([], laying_after, (), (HUGE,))
        self.gives([HUGE], laying_after, [0], [HUGE])

    def test_two_web_layings_behind_one_another(self):
        first = [1, 2, 3]
        second = [0, 1, 2, 0]
        self.gives(True, is_web_laying, path_web(3), path_web(4), first)
        self.gives(True, is_web_laying, path_web(4), ring_web(3), second)
        self.gives(True, is_web_laying, path_web(3), ring_web(3), laying_after(first, second))

    def test_wrong_members(self):
        for value in NOT_SEQUENCES:
            self.refused(BadThings(None), laying_after, value, None)
            self.refused(BadThings(None), laying_after, [9], value)
        for member in NOT_INTEGERS + (-1, -HUGE):
            self.refused(BadThings(0), laying_after, [member, None], [])
            self.refused(BadThings(2), laying_after, (0, HUGE, member), None)
            self.refused(BadThings(1), laying_after, [9, 9], [0, member, None])
            self.refused(BadThings(0), laying_after, [], (member,))

    def test_indices_that_the_second_one_does_not_have(self):
        self.refused(BadThings(1), laying_after, [0, 3, 4], [5, 7, 9])
        self.refused(BadThings(0), laying_after, (0,), ())
        self.refused(BadThings(2), laying_after, [2, 0, HUGE], [1, 1, 1])


class PullHuesTest(ProgramTest):

    def test_each_walk_has_the_hue_of_its_image(self):
        onto = Web(4, [(0, 1), (1, 2), (2, 0), (0, 2), (2, 3)])
        for span in (2, 3, 4):
            walks = all_walks(onto, span)
            hues = [(i * 3 + i // 4) % 8 for i in range(len(walks))]
            for web in SMALL_WEBS:
                for laying in product(range(4), repeat=web.places):
                    if not is_web_laying(web, onto, laying):
                        continue
                    images = [tuple([laying[place] for place in walk]) for walk in all_walks(web, span)]
                    expected = [hues[walks.index(image)] for image in images]
                    self.assertEqual(shown(pull_hues(web, onto, span, laying, hues)), shown(expected))

    def test_ordinary_answers(self):
        self.gives([7, 0, 7], pull_hues, path_web(4), two_way_web(2, [(0, 1)]), 2, [1, 0, 1, 0], [0, 7])
        self.gives([4], pull_hues, hues=(0, 4), laying=(1, 2, 3), span=3, onto=path_web(4), web=path_web(3))
        self.gives([], pull_hues, Web(2), ring_web(1), 6, [0, 0], [5])
        self.gives([], pull_hues, Web(0), Web(0), 2, [], [])
        self.gives([5], pull_hues, ring_web(1), ring_web(1), 6, [0], [5])

    def test_the_limits_on_walks(self):
        few = path_web(2)
        many = hub_web(69, 29)
        for span in (3, 4, 6):
            self.refused(TooMany(2000), pull_hues, many, few, span, None, None)
            self.refused(TooMany(2000), pull_hues, few, many, span, None, None)
            self.refused(TooMany(2000), pull_hues, few, hub_web(69, 29, hubs=span - 2), span, [], [])
        self.gives([0], pull_hues, few, many, 2, [0, 98], [0] * 98)
        self.refused(BadLaying(None), pull_hues, hub_web(50, 40), hub_web(50, 40), 3, None, None)

    def test_the_order_of_the_checks(self):
        web = path_web(3)
        onto = row_web(4)
        for wrong in NOT_WEBS:
            self.refused(BadWeb(None), pull_hues, wrong, None, 0, None, None)
            self.refused(BadWeb(None), pull_hues, wrong, onto, 0, None, None)
            self.refused(BadWeb(None), pull_hues, web, wrong, 0, None, None)
        for span in NOT_SPANS:
            self.refused(BadNumber(), pull_hues, hub_web(69, 29), hub_web(69, 29), span, None, None)
        for laying in NOT_SEQUENCES + ([], [0, 1], (0, 1, 2, 3), [None] * 4):
            self.refused(BadLaying(None), pull_hues, web, onto, 2, laying, None)
        for place in NOT_INTEGERS + (-1, 4, HUGE, -HUGE):
            self.refused(BadLaying(1), pull_hues, web, onto, 2, [3, place, None], None)
        self.refused(BadLaying(None), pull_hues, web, onto, 2, [0, 2, 1], None)
        self.refused(BadLaying(2), pull_hues, web, onto, 2, [1, 0, 4], None)
        for hues in NOT_SEQUENCES + ([], [0] * 3, [0] * 5, (None,) * 5):
            self.refused(BadHueing(None), pull_hues, web, onto, 3, [0, 1, 2], hues)
        for hue in NOT_INTEGERS + (-1, 8, HUGE, -HUGE):
            self.refused(BadHueing(2), pull_hues, web, onto, 3, [0, 1, 2], [7, 0, hue, None])

    def test_a_later_change(self):
        hues = [0, 1]
        laying = [0, 1]
        answer = pull_hues(path_web(2), path_web(3), 2, laying, hues)
        answer[0] = 5
        self.gives([0], pull_hues, path_web(2), path_web(3), 2, laying, hues)
        laying[:] = [1, 2]
        self.gives([1], pull_hues, path_web(2), path_web(3), 2, laying, hues)


class FindLayingTest(ProgramTest):

    def test_small_webs(self):
        for web in SMALL_WEBS:
            for order in SMALL_ORDERS:
                layings = layings_by_trial(web, order)
                self.gives(layings[0] if layings else None, find_laying, web, order)
                for begun in range(1, web.places + 1):
                    for start in product(range(order.size), repeat=begun):
                        fitting = [laying for laying in layings if laying[:begun] == list(start)]
                        expected = shown(fitting[0] if fitting else None)
                        self.assertEqual(shown(find_laying(web, order, start=start)), expected)
                        self.assertEqual(shown(find_laying(web, order, start=list(start))), expected)

    def test_ordinary_answers(self):
        self.gives([2, 0, 1], find_laying, row_web(3), loose_order(3), start=[2])
        self.gives(None, find_laying, row_web(3), chain_order(2))
        self.gives([0, 1, 2], find_laying, order=chain_order(3), web=row_web(3))
        self.gives([0, 1, 0, 2], find_laying, start=(0, 1), order=loose_order(4), web=two_way_web(4, [
            (0, 1), (1, 2), (2, 3), (3, 0), (1, 3),
        ]))
        self.gives([0, 1, 2, 3, 4], find_laying, row_web(5), up(box([2, 2])))

    def test_start_is_passed_by_name_alone(self):
        with self.assertRaises(TypeError):
            find_laying(row_web(3), chain_order(3), [0])

    def test_an_arrow_of_the_start_that_is_not_kept(self):
        self.gives(None, find_laying, path_web(3), chain_order(3), start=[1, 1])
        self.gives(None, find_laying, path_web(3), chain_order(3), start=(0, 1, 0))
        self.gives(None, find_laying, Web(2, [(0, 0)]), loose_order(2), start=[0])
        self.gives([0, 1, 2], find_laying, path_web(3), chain_order(3), start=[0, 1, 2])

    def test_exactly_13_and_14_free_places(self):
        self.gives([0] * 13, find_laying, Web(13), loose_order(2))
        self.gives([0, 1] * 6 + [0], find_laying, path_web(13), loose_order(2))
        self.gives(None, find_laying, Web(13, [(12, 12)]), chain_order(2))
        self.gives([0] * 13, find_laying, Web(13), Order(1))
        self.gives([0] * 14, find_laying, Web(14), Order(1), start=[0])
        self.gives([i % 2 for i in range(2000)], find_laying, path_web(2000), loose_order(2),
                   start=[i % 2 for i in range(1987)])
        for order in (Order(0), Order(1), loose_order(2), loose_order(200)):
            self.refused(TooMany(13), find_laying, Web(14), order)
            self.refused(TooMany(13), find_laying, ring_web(14), order)
        self.refused(TooMany(13), find_laying, path_web(2000), loose_order(2), start=[0] * 1986)
        self.refused(TooMany(13), find_laying, Web(15, [(0, 0)]), Order(1), start=[0])

    def test_exactly_10000_and_more_ways(self):
        self.gives([0, 1], find_laying, path_web(2), chain_order(100))
        self.gives([3, 0, 1, 2, 4], find_laying, row_web(5), loose_order(10), start=[3])
        self.gives([0, 0, 0, 0], find_laying, Web(4), loose_order(10))
        self.gives(None, find_laying, Web(2, [(0, 1), (1, 0)]), chain_order(100))
        self.gives([199], find_laying, Web(1), loose_order(200), start=[199])
        self.gives([199, 0], find_laying, Web(2), loose_order(200), start=[199])
        self.refused(TooMany(10000), find_laying, path_web(2), chain_order(101))
        self.refused(TooMany(10000), find_laying, Web(5), loose_order(10))
        self.refused(TooMany(10000), find_laying, Web(9), loose_order(3))
        self.refused(TooMany(10000), find_laying, Web(13), loose_order(200))
        # The answer is plain here, and the limits go before it.
        self.refused(TooMany(10000), find_laying, Web(3, [(0, 0)]), chain_order(101), start=[0])
        self.refused(TooMany(10000), find_laying, ring_web(13), loose_order(3), start=[0, 0])
        self.refused(TooMany(13), find_laying, path_web(20), loose_order(3), start=[0, 0])

    def test_the_order_of_the_checks(self):
        for web in NOT_WEBS:
            self.refused(BadWeb(None), find_laying, web, None, start=None)
        for order in NOT_ORDERS:
            self.refused(BadOrder(None), find_laying, Web(20), order, start=None)
        for start in NOT_SEQUENCES + ([0] * 21, (None,) * 21):
            self.refused(BadThings(None), find_laying, Web(20), loose_order(3), start=start)
        for thing in NOT_INTEGERS + (-1, 3, HUGE, -HUGE):
            self.refused(BadThings(0), find_laying, Web(20), loose_order(3), start=[thing, None])
            self.refused(BadThings(2), find_laying, Web(20), loose_order(3), start=(0, 2, thing))
        self.refused(BadThings(None), find_laying, Web(0), Order(0), start=[0])
        self.refused(BadThings(0), find_laying, Web(1), Order(0), start=[0])

    def test_a_later_change(self):
        start = [2]
        answer = find_laying(row_web(3), loose_order(3), start=start)
        answer.clear()
        self.gives([2, 0, 1], find_laying, row_web(3), loose_order(3), start=start)
        start[0] = 1
        self.gives([1, 0, 2], find_laying, row_web(3), loose_order(3), start=start)
        full = [0, 1, 2]
        find_laying(row_web(3), loose_order(3), start=full).clear()
        self.assertEqual(full, [0, 1, 2])
        self.gives([0, 1, 2], find_laying, row_web(3), loose_order(3))

    def test_equal_calls_with_others_in_between(self):
        web = beside_web(path_web(2), ring_web(3))

        def answers():
            return shown([
                find_laying(web, loose_order(3)), is_laying(web, loose_order(3), [0, 1, 0, 1, 2]),
                bad_arrow(web, chain_order(3), [0, 1, 0, 1, 2]), as_lists(laying_after((1, 0), (3, 4))),
            ])
        before = answers()
        for other in SMALL_WEBS[::7]:
            find_laying(other, chain_order(3))
        self.assertEqual(answers(), before)


if __name__ == "__main__":
    unittest.main()
