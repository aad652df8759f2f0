"""Turns, cups, caps and the best points: points 3 to 8, 38 and 39, and huewalks.turns."""

import unittest
from itertools import combinations, product
from math import comb

from huewalks.errors import BadNumber, BadPoints, TooMany
from huewalks.turns import (
    best_points, cup_or_cap, is_cap, is_cup, longest_cap, longest_cup, point_hues, spread, steepest, turn,
)
from huewalks.walks import all_walks
from huewalks.webs import Web, row_web
from helpers import HUGE, NOT_INTEGERS, NOT_SEQUENCES, ODD_VALUES, ProgramTest, shown, spoiled

FAR = 10 ** 200 - 1

NOT_POINTS = NOT_SEQUENCES + ([], (), [0], (0, 0, 0), [None, 0], (0, True), ["0", 0], [[0], 0], (FAR + 1, 0), [0, FAR + 1],
                              [-FAR - 1, 0], (0, -FAR - 1), (HUGE, 0), [0, -HUGE])

NOT_ASKED = NOT_INTEGERS + (0, -1, 201, HUGE, -HUGE)

NOT_BEST = NOT_INTEGERS + (-1, 70, HUGE, -HUGE)


def bow(many):
    """Points all of which make a cup."""
    return [(i, i * i) for i in range(many)]


def line(many):
    """Points on a straight line."""
    return [(3 * i - 5, 2 * i) for i in range(many)]


POINTS = [
    [], [(5, 5)], [(0, 0), (1, 9)], bow(6), [(x, -y) for x, y in bow(6)], line(7), [(i, 0) for i in range(5)],
    [(i, i * 7 % 11) for i in range(9)], [(2 * i - 7, i * i * 5 % 13) for i in range(10)],
    [(-FAR, FAR), (-FAR + 1, -FAR), (0, 0), (7, FAR), (FAR, -FAR)], [(-4, 0), (0, 1), (1, 1), (2, 1), (5, 3), (6, 9)],
    [(i, [0, 3, 1, 2, 2, 0, 5, 1][i]) for i in range(8)],
]


def left_by_trial(p, q, r):
    """True if the middle one of three points lies below the straight line of the two others."""
    return (q[1] - p[1]) * (r[0] - p[0]) < (r[1] - p[1]) * (q[0] - p[0])


def all_bent(points, cups):
    """All cups, or all caps, as tuples of indices."""
    return [
        places for size in range(len(points) + 1) for places in combinations(range(len(points)), size)
        if all(left_by_trial(*[points[place] for place in places[i:i + 3]]) is cups for i in range(size - 2))
    ]


class TurnTest(ProgramTest):

    def test_ordinary_answers(self):
        self.gives(1, turn, (0, 0), (1, 0), (2, 1))
        self.gives(-1, turn, [0, 0], (1, 0), [2, -1])
        self.gives(0, turn, (0, 0), (1, 1), (2, 2))
        self.gives(1, turn, r=(2, 1), q=(1, 0), p=(0, 0))

    def test_all_orders_of_small_points(self):
        points = list(product(range(-1, 2), repeat=2))
        for p, q, r in product(points, repeat=3):
            area = (q[0] - p[0]) * (r[1] - p[1]) - (q[1] - p[1]) * (r[0] - p[0])
            expected = 0 if area == 0 else area // abs(area)
            self.assertEqual(shown(turn(p, list(q), r)), shown(expected))

    def test_equal_and_turned_points(self):
        self.gives(0, turn, (3, 3), (3, 3), (3, 3))
        self.gives(0, turn, (3, 3), (3, 3), (5, 9))
        self.gives(0, turn, (1, 1), (5, 9), (1, 1))
        self.gives(-1, turn, (2, 1), (1, 0), (0, 0))

    def test_great_coordinates(self):
        self.gives(1, turn, (-FAR, -FAR), (FAR, -FAR), (FAR, FAR))
        self.gives(-1, turn, (-FAR, -FAR), (-FAR, FAR), (FAR, FAR))
        self.gives(0, turn, (-FAR, -FAR), (0, 0), (FAR, FAR))
        self.gives(1, turn, (-FAR, -FAR), (0, -1), (FAR, FAR))
        self.gives(-1, turn, (-FAR, -FAR), (0, 1), (FAR, FAR))

    def test_wrong_points(self):
        for point in NOT_POINTS:
            self.refused(BadPoints(None), turn, point, (0, 0), (0, 0))
            self.refused(BadPoints(None), turn, (0, 0), point, (0, 0))
            self.refused(BadPoints(None), turn, (0, 0), (0, 0), point)
            self.refused(BadPoints(None), turn, point, point, point)


class PointsTest(ProgramTest):

    def test_wrong_points(self):
        for call, rest in (
            (point_hues, ()), (is_cup, (None,)), (is_cap, (None,)), (longest_cup, ()), (longest_cap, ()),
            (cup_or_cap, (None, None)), (spread, ()), (steepest, ()),
        ):
            for points in NOT_SEQUENCES + (bow(201), [None] * 201, ((0, 0),) * 201):
                self.refused(BadPoints(None), call, points, *rest)
            for point in NOT_POINTS:
                self.refused(BadPoints(0), call, [point, None], *rest)
                self.refused(BadPoints(2), call, ((-2, 0), (-1, 0), point, point), *rest)
            for x in (0, 1, -5, -FAR):
                self.refused(BadPoints(2), call, [(0, 0), (1, 0), (x, 0), None], *rest)
            self.refused(BadPoints(1), call, [(0, 0), (0, 1)], *rest)
            self.refused(BadPoints(199), call, bow(199) + [(198, 0)], *rest)
            self.refused(BadPoints(1), call, [(FAR, 0), (FAR + 1, 0)], *rest)

    def test_point_hues(self):
        for points in POINTS:
            walks = all_walks(row_web(len(points)), 3)
            expected = [0 if left_by_trial(points[i], points[j], points[k]) else 1 for i, j, k in walks]
            self.gives(expected, point_hues, points)
            self.gives(expected, point_hues, tuple([list(point) for point in points]))

    def test_0_1_2_23_and_24_points(self):
        for many in (0, 1, 2):
            self.gives([], point_hues, points=bow(many))
        self.gives([0] * 1771, point_hues, bow(23))
        self.gives([1] * 1771, point_hues, line(23))
        for points in (bow(24), line(40), bow(200)):
            self.refused(TooMany(2000), point_hues, points)
            self.refused(TooMany(2000), cup_or_cap, points, 1, 1)

    def test_spread_and_steepest(self):
        for points in POINTS:
            heights = [y for _, y in points]
            self.gives(max(heights) - min(heights) if points else 0, spread, points)
            steps = [abs(a - b) for a, b in zip(heights, heights[1:])]
            self.gives(max(steps) if steps else 0, steepest, tuple(points))
        self.gives(0, spread, points=[(9, -4)])
        self.gives(2 * FAR, spread, [(0, FAR), (1, 0), (2, -FAR)])
        self.gives(2 * FAR, steepest, [(0, FAR), (1, -FAR), (9, 3)])
        self.gives(4, steepest, points=[[-9, 5], [0, 1], [100, 2]])
        self.gives(199 * 199, spread, bow(200))
        self.gives(397, steepest, bow(200))


class CupTest(ProgramTest):

    def test_all_sequences_of_small_points(self):
        for points in POINTS:
            cups, caps = all_bent(points, True), all_bent(points, False)
            many = min(len(points), 5)
            for size in range(4 if many > 4 else 5):
                for places in product(range(-1, many + 1), repeat=size):
                    self.assertIs(is_cup(points, places), places in cups)
                    self.assertIs(is_cap(points, list(places)), places in caps)
            for places in cups[::5] + caps[::5]:
                self.assertIs(is_cup(points, list(places)), places in cups)
                self.assertIs(is_cap(points, places), places in caps)

    def test_in_a_cup_any_three_points_turn_left(self):
        for points in POINTS:
            for places in all_bent(points, True):
                self.assertTrue(all(turn(*[points[i] for i in three]) == 1 for three in combinations(places, 3)))
            for places in all_bent(points, False):
                self.assertTrue(all(turn(*[points[i] for i in three]) < 1 for three in combinations(places, 3)))

    def test_the_empty_sequence_one_index_and_two(self):
        for points in POINTS:
            for call in (is_cup, is_cap):
                self.gives(True, call, points, [])
                self.gives(bool(points), call, points, (0,))
                self.gives(len(points) > 1, call, places=[0, len(points) - 1], points=points)

    def test_a_straight_line_is_a_cap(self):
        self.gives(True, is_cap, line(200), list(range(200)))
        self.gives(False, is_cup, line(200), [0, 1, 2])
        self.gives(True, is_cup, bow(200), tuple(range(200)))
        self.gives(False, is_cup, bow(200), tuple(range(201)))
        self.gives(False, is_cap, bow(200), (0, 1, 199))
        self.gives(False, is_cup, bow(200), [0] * 20000)

    def test_values_of_every_kind(self):
        for call in (is_cup, is_cap):
            self.judges_not(ODD_VALUES, call, bow(4))
            self.judges_not(spoiled([0, 1]), call, bow(3))
            self.judges_not(([1, 0], (0, 0), [0, 2, 1], [1, 1, 2]), call, bow(3))

    def test_longest(self):
        for points in POINTS:
            self.gives(max([len(places) for places in all_bent(points, True)]), longest_cup, points)
            self.gives(max([len(places) for places in all_bent(points, False)]), longest_cap, tuple(points))

    def test_longest_of_0_1_2_40_and_41_points(self):
        for call in (longest_cup, longest_cap):
            for many in (0, 1, 2):
                self.gives(many, call, points=bow(many))
                self.gives(many, call, line(many))
            for points in (bow(41), line(41), bow(200)):
                self.refused(TooMany(40), call, points)
        self.gives(40, longest_cup, bow(40))
        self.gives(2, longest_cap, bow(40))
        self.gives(2, longest_cup, line(40))
        self.gives(40, longest_cap, line(40))

    def test_cup_or_cap(self):
        for points in POINTS:
            cups, caps = all_bent(points, True), all_bent(points, False)
            for a, b in product((1, 2, 3, 4, 200), repeat=2):
                found = [(0, list(places)) for places in sorted(cups) if len(places) == a + 2]
                found += [(1, list(places)) for places in sorted(caps) if len(places) == b + 2]
                self.gives(found[0] if found else None, cup_or_cap, points, a, b)
                self.assertEqual(cup_or_cap(caps=b, cups=a, points=tuple(points)), found[0] if found else None)

    def test_exactly_the_asked_number_of_points_and_one_fewer(self):
        self.gives((0, list(range(23))), cup_or_cap, bow(23), 21, 1)
        self.gives(None, cup_or_cap, bow(23), 22, 1)
        self.gives((1, list(range(23))), cup_or_cap, line(23), 1, 21)
        self.gives(None, cup_or_cap, line(23), 1, 22)
        self.gives((0, list(range(5))), cup_or_cap, bow(23), 3, 3)
        for many in (0, 1, 2):
            self.gives(None, cup_or_cap, bow(many), 1, 1)

    def test_wrong_numbers(self):
        for number in NOT_ASKED:
            self.refused(BadNumber(), cup_or_cap, bow(24), number, 1)
            self.refused(BadNumber(), cup_or_cap, bow(24), 1, number)
            self.refused(BadNumber(), cup_or_cap, bow(3), number, None)


class BestPointsTest(ProgramTest):

    def test_the_examples(self):
        self.gives([(0, 0), (1, 1)], best_points, 1, 1)
        self.gives([(0, 0), (1, 1), (2, 5)], best_points, 2, 1)
        self.gives([(0, 0), (1, 1), (2, 5)], best_points, caps=1, cups=2)

    def test_by_the_definition(self):
        for a in range(5):
            for b in range(5):
                points = best_points(a, b)
                self.assertEqual(len(points), comb(a + b, a))
                self.assertEqual([x for x, _ in points], list(range(len(points))))
                if a == 0 or b == 0:
                    self.gives([(0, 0)], best_points, a, b)
                    continue
                left, right = best_points(a - 1, b), best_points(a, b - 1)
                heights = [[y for _, y in part] for part in (left, right)]
                steps = [abs(p - q) for part in heights for p, q in zip(part, part[1:])]
                raised = max(steps, default=0) * len(points) + max(heights[0]) - min(heights[1]) + 1
                self.gives(left + [(x + len(left), y + raised) for x, y in right], best_points, a, b)

    def test_there_is_no_greater_cup_or_cap(self):
        for a in range(1, 6):
            for b in range(1, 6):
                if comb(a + b, a) <= 40:
                    self.gives(a + 1, longest_cup, best_points(a, b))
                    self.gives(b + 1, longest_cap, best_points(a, b))
                if comb(a + b, a) <= 23:
                    self.gives(None, cup_or_cap, best_points(a, b), a, b)

    def test_a_or_b_of_0(self):
        for number in (0, 1, 69):
            self.gives([(0, 0)], best_points, number, 0)
            self.gives([(0, 0)], best_points, 0, number)

    def test_exactly_70_points_and_more(self):
        for a, b in ((4, 4), (1, 69), (69, 1)):
            points = best_points(a, b)
            self.assertEqual(len(points), 70)
            self.assertEqual(len(point_hues(points[:23])), 1771)
            self.assertTrue(all(type(point) is tuple and len(point) == 2 for point in points))
            self.gives(points[-1][1], spread, points)
        for a, b in ((4, 5), (5, 4), (2, 11), (11, 2), (69, 69), (3, 7), (69, 2)):
            self.refused(TooMany(70), best_points, a, b)
        self.assertEqual(len(best_points(2, 10)), 66)

    def test_wrong_numbers(self):
        for number in NOT_BEST:
            self.refused(BadNumber(), best_points, number, 69)
            self.refused(BadNumber(), best_points, 69, number)
            self.refused(BadNumber(), best_points, number, number)
        self.refused(BadNumber(), best_points, Web(1), 0)


class CallsInBetweenTest(ProgramTest):

    def answers(self):
        return shown([
            turn((0, 0), (1, 0), (2, 1)), point_hues(line(4)), is_cup(bow(4), [0, 1, 2]), is_cap(line(4), [0, 1, 2]),
            longest_cup(bow(5)), longest_cap(bow(5)), cup_or_cap(bow(5), 2, 2), best_points(2, 2), spread(bow(5)),
            steepest(bow(5)),
        ])

    def test_equal_calls_give_equal_answers(self):
        before = self.answers()
        for points in POINTS:
            longest_cup(points)
        best_points(3, 3)
        self.assertEqual(self.answers(), before)

    def test_a_later_change(self):
        before = self.answers()
        best_points(2, 2).clear()
        point_hues(line(4)).clear()
        cup_or_cap(bow(5), 2, 2)[1].clear()
        self.assertEqual(self.answers(), before)
        points = [[0, 0], [1, 1]]
        self.gives(1, spread, points)
        points[1][1] = 5
        self.gives(5, spread, points)


if __name__ == "__main__":
    unittest.main()
