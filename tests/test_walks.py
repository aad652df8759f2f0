"""Walks and windows: point 11 and the first functions of huewalks.walks."""

import unittest
from itertools import product
from math import comb

from huewalks.errors import BadNumber, BadWalk, BadWeb, TooMany
from huewalks.walks import all_walks, is_walk, walk_number, walk_of_rank, walk_rank, windows
from huewalks.webs import Web, path_web, ring_web, row_web, two_way_web
from helpers import HUGE, NOT_INTEGERS, NOT_SEQUENCES, NOT_WEBS, ProgramTest, all_small_webs, dense_web, hub_web

SMALL_WEBS = all_small_webs(2) + all_small_webs(3)[19::23] + [row_web(5), ring_web(4), path_web(4)]


def walks_by_trial(web, places):
    """All walks, found by a look at all tuples of places."""
    arrows = web.arrows
    found = []
    for walk in product(range(web.places), repeat=places):
        if all((u, v) in arrows for u, v in zip(walk, walk[1:])):
            found.append(walk)
    return found


class WalkNumberTest(ProgramTest):

    def test_small_webs(self):
        for web in SMALL_WEBS:
            for places in range(1, 5):
                self.gives(len(walks_by_trial(web, places)), walk_number, web, places)

    def test_one_place_needs_no_arrow(self):
        self.gives(2000, walk_number, Web(2000), 1)
        self.gives(0, walk_number, Web(2000), 2)
        self.gives(0, walk_number, Web(0), 1)
        self.gives(0, walk_number, Web(0), 300)

    def test_great_numbers(self):
        self.gives(comb(63, 20), walk_number, row_web(63), 20)
        self.gives(0, walk_number, row_web(63), 64)
        self.gives(2 ** 300, walk_number, dense_web(2), 300)
        self.gives(44 ** 300, walk_number, web=dense_web(44), places=300)
        self.gives(1, walk_number, ring_web(1), 300)
        self.gives(2000, walk_number, ring_web(2000), 300)

    def test_wrong_arguments(self):
        for web in NOT_WEBS:
            self.refused(BadWeb(None), walk_number, web, 0)
        for places in NOT_INTEGERS + (0, -1, 301, HUGE, -HUGE):
            self.refused(BadNumber(), walk_number, Web(2), places)


class AllWalksTest(ProgramTest):

    def test_small_webs(self):
        for web in SMALL_WEBS:
            for places in range(1, 5):
                self.gives(walks_by_trial(web, places), all_walks, web, places)

    def test_ordinary_webs(self):
        self.gives([(0, 1, 2), (0, 1, 3), (0, 2, 3), (1, 2, 3)], all_walks, row_web(4), 3)
        self.gives([(0, 1, 0), (1, 0, 1)], all_walks, places=3, web=two_way_web(2, [(0, 1)]))
        self.gives([(0, 0, 0, 0)], all_walks, ring_web(1), 4)
        self.gives([(0,), (1,), (2,)], all_walks, Web(3), 1)
        self.gives([], all_walks, Web(3), 2)
        self.gives([], all_walks, Web(0), 1)

    def test_walks_of_1_and_of_300_places(self):
        self.gives([(0,) * 300], all_walks, ring_web(1), 300)
        self.gives([tuple(range(300))], all_walks, path_web(300), 300)
        self.gives([], all_walks, path_web(299), 300)
        self.gives([(place,) for place in range(2000)], all_walks, Web(2000), 1)

    def test_ascending_as_integers(self):
        web = Web(12, [(1, 10), (1, 9), (10, 1), (9, 11), (9, 2)])
        self.gives([(1, 9, 2), (1, 9, 11), (1, 10, 1), (10, 1, 9), (10, 1, 10)], all_walks, web, 3)

    def test_exactly_2000_and_2001_walks(self):
        self.assertEqual(len(all_walks(hub_web(40, 50), 3)), 2000)
        self.refused(TooMany(2000), all_walks, hub_web(69, 29), 3)
        self.assertEqual(len(all_walks(ring_web(2000), 6)), 2000)

    def test_a_shorter_length_alone_has_too_many(self):
        web = hub_web(69, 29)
        self.assertEqual(walk_number(web, 4), 0)
        self.refused(TooMany(2000), all_walks, web, 4)
        self.refused(TooMany(2000), all_walks, web, 300)
        self.gives([], all_walks, hub_web(40, 50), 4)
        self.assertEqual(len(all_walks(web, 2)), 98)
        self.assertEqual(len(all_walks(web, 1)), 99)

    def test_wrong_arguments(self):
        for web in NOT_WEBS:
            self.refused(BadWeb(None), all_walks, web, None)
        for places in NOT_INTEGERS + (0, -1, 301, HUGE, -HUGE):
            self.refused(BadNumber(), all_walks, hub_web(69, 29), places)

    def test_a_later_change_of_the_answer(self):
        web = path_web(3)
        all_walks(web, 2).append((2, 0))
        all_walks(web, 2).clear()
        self.gives([(0, 1), (1, 2)], all_walks, web, 2)
        self.assertEqual(web, path_web(3))


class IsWalkTest(ProgramTest):

    def test_small_webs(self):
        for web in SMALL_WEBS[::3]:
            for places in range(1, 4):
                right = walks_by_trial(web, places)
                for walk in product(range(-1, web.places + 1), repeat=places):
                    self.gives(walk in right, is_walk, web, walk)
                    self.gives(walk in right, is_walk, web, list(walk))

    def test_ordinary_walks(self):
        web = ring_web(3)
        self.gives(True, is_walk, web, [1, 2, 0, 1])
        self.gives(True, is_walk, walk=(2,), web=web)
        self.gives(False, is_walk, web, (1, 0))
        self.gives(False, is_walk, web, (1, 1))

    def test_no_upper_limit(self):
        web = ring_web(2)
        self.gives(True, is_walk, web, [0, 1] * 10000)
        self.gives(False, is_walk, web, [0, 1] * 9999 + [0, 0])
        self.gives(True, is_walk, dense_web(44), tuple(range(44)) * 20)

    def test_the_limit_on_walks_is_not_asked(self):
        self.gives(True, is_walk, hub_web(69, 29), (0, 98, 69))

    def test_any_value(self):
        web = dense_web(3)
        deep = [0]
        for _ in range(39):
            deep = [deep]
        for value in NOT_SEQUENCES + ([], (), deep, [web], [[0], [1]], ((0, 1),)):
            self.gives(False, is_walk, web, value)
        for member in NOT_INTEGERS + (-1, -3, 3, HUGE, -HUGE):
            self.gives(False, is_walk, web, [member])
            self.gives(False, is_walk, web, (0, member, 1))
        self.gives(False, is_walk, Web(0), [])
        self.gives(False, is_walk, Web(0), [0])

    def test_a_bool_is_no_integer_also_after_an_equal_looking_call(self):
        web = ring_web(2)
        for _ in range(2):
            self.gives(True, is_walk, web, (0, 1))
            self.gives(False, is_walk, web, (False, True))
            self.gives(1, walk_rank, web, (1, 0))
            self.refused(BadWalk(0), walk_rank, web, (True, 0))

    def test_wrong_web(self):
        for web in NOT_WEBS:
            self.refused(BadWeb(None), is_walk, web, [0])


class RankTest(ProgramTest):

    def test_small_webs(self):
        for web in SMALL_WEBS:
            for places in range(1, 5):
                walks = walks_by_trial(web, places)
                for rank, walk in enumerate(walks):
                    self.gives(rank, walk_rank, web, walk)
                    self.gives(walk, walk_of_rank, web, places, rank)
                self.refused(BadNumber(), walk_of_rank, web, places, len(walks))

    def test_by_name_and_as_a_list(self):
        self.gives(2, walk_rank, walk=[0, 2, 3], web=row_web(4))
        self.gives((0, 2, 3), walk_of_rank, rank=2, places=3, web=row_web(4))

    def test_first_and_last_rank_of_great_numbers(self):
        web = dense_web(44)
        last = 44 ** 300 - 1
        self.gives((0,) * 300, walk_of_rank, web, 300, 0)
        self.gives((43,) * 300, walk_of_rank, web, 300, last)
        self.gives(0, walk_rank, web, (0,) * 300)
        self.gives(last, walk_rank, web, [43] * 300)
        self.refused(BadNumber(), walk_of_rank, web, 300, last + 1)
        self.refused(BadNumber(), walk_of_rank, web, 300, -1)

    def test_a_rank_in_the_middle(self):
        web = dense_web(10)
        self.gives((3, 1, 4, 1, 5, 9), walk_of_rank, web, 6, 314159)
        self.gives(314159, walk_rank, web, (3, 1, 4, 1, 5, 9))
        walk = (2, 7, 1, 8) * 75
        self.gives(int("2718" * 75), walk_rank, web, walk)
        self.gives(walk, walk_of_rank, web, 300, int("2718" * 75))

    def test_where_some_walks_come_to_an_end(self):
        web = Web(6, [(0, 1), (0, 2), (2, 3), (2, 5), (5, 2), (4, 4)])
        for places in range(1, 8):
            for rank, walk in enumerate(all_walks(web, places)):
                self.gives(rank, walk_rank, web, walk)
                self.gives(walk, walk_of_rank, web, places, rank)

    def test_no_limit_on_the_number_of_walks(self):
        self.gives(2000, walk_rank, hub_web(69, 29), (68, 98, 97))
        self.gives((68, 98, 97), walk_of_rank, hub_web(69, 29), 3, 2000)

    def test_wrong_walks(self):
        web = Web(3, [(0, 1), (1, 2), (1, 0)])
        for walk in NOT_SEQUENCES + ([], (), [0, 1] * 150 + [0], [7] * 301):
            self.refused(BadWalk(None), walk_rank, web, walk)
        for place in NOT_INTEGERS + (-1, -2, 3, HUGE, -HUGE):
            self.refused(BadWalk(0), walk_rank, web, (place, 1))
            self.refused(BadWalk(2), walk_rank, web, [0, 1, place, 7])
        self.refused(BadWalk(1), walk_rank, web, (0, 0, 5))
        self.refused(BadWalk(3), walk_rank, web, [0, 1, 2, 0])
        self.refused(BadWalk(0), walk_rank, Web(0), [0])
        self.gives(0, walk_rank, web, [0, 1] * 150)

    def test_wrong_numbers(self):
        web = ring_web(3)
        for places in NOT_INTEGERS + (0, -1, 301, HUGE, -HUGE):
            self.refused(BadNumber(), walk_of_rank, web, places, 0)
        for rank in NOT_INTEGERS + (-1, 3, HUGE, -HUGE, 10 ** 5000, -10 ** 5000):
            self.refused(BadNumber(), walk_of_rank, web, 2, rank)
        self.refused(BadNumber(), walk_of_rank, Web(0), 1, 0)
        self.refused(BadNumber(), walk_of_rank, Web(5), 2, 0)

    def test_wrong_webs_go_first(self):
        for web in NOT_WEBS:
            self.refused(BadWeb(None), walk_rank, web, None)
            self.refused(BadWeb(None), walk_of_rank, web, None, None)


class WindowsTest(ProgramTest):

    def test_from_left_to_right(self):
        self.gives([(4, 2), (2, 7), (7, 7)], windows, [4, 2, 7, 7], 2)
        self.gives([(4, 2, 7), (2, 7, 7)], windows, span=3, walk=(4, 2, 7, 7))
        self.gives([(4, 2, 7, 7)], windows, [4, 2, 7, 7], 4)

    def test_spans_2_and_6(self):
        walk = list(range(20, 28))
        self.gives([(walk[i], walk[i + 1]) for i in range(7)], windows, walk, 2)
        self.gives([tuple(walk[i:i + 6]) for i in range(3)], windows, walk, 6)

    def test_short_walks(self):
        self.gives([], windows, [], 2)
        self.gives([], windows, (), 6)
        self.gives([], windows, [5], 2)
        self.gives([], windows, (1, 2, 3, 4, 5), 6)

    def test_any_integers(self):
        self.gives([(-3, HUGE), (HUGE, 0), (0, -HUGE)], windows, (-3, HUGE, 0, -HUGE), 2)

    def test_long_walks(self):
        self.assertEqual(len(windows(list(range(20000)), 6)), 19995)
        self.assertEqual(windows(tuple(range(20000)), 6)[-1], tuple(range(19994, 20000)))

    def test_wrong_walks(self):
        for walk in NOT_SEQUENCES:
            self.refused(BadWalk(None), windows, walk, 1)
        for member in NOT_INTEGERS:
            self.refused(BadWalk(0), windows, (member,), None)
            self.refused(BadWalk(2), windows, [0, 1, member, None], 2)

    def test_the_span_is_checked_behind_the_walk_also_of_a_short_one(self):
        for span in NOT_INTEGERS + (0, 1, -2, 7, HUGE, -HUGE):
            self.refused(BadNumber(), windows, [], span)
            self.refused(BadNumber(), windows, (0, 1, 2), span)

    def test_a_later_change(self):
        walk = [0, 1, 2]
        answer = windows(walk, 2)
        walk[1] = 5
        self.assertEqual(answer, [(0, 1), (1, 2)])
        answer.clear()
        self.gives([(0, 5), (5, 2)], windows, walk, 2)


if __name__ == "__main__":
    unittest.main()
