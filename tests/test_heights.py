"""Heights of closed lots: points 4, 5, 6 and 21, and the last functions of huewalks.counts."""

import unittest
from itertools import product

from huewalks.box import box, box_rows
from huewalks.closedlots import lots
from huewalks.counts import is_heights, lot_heights, lot_of_heights
from huewalks.errors import BadBounds, BadThings, TooMany
from helpers import (
    HUGE, NOT_INTEGERS, NOT_SEQUENCES, ODD_VALUES, WRONG_BOUNDS, ProgramTest, as_lists, shown, spoiled,
)

SMALL_BOUNDS = (
    [1], [4], [1, 1], [2, 2], [2, 3], (3, 1), [3, 2], [2, 2, 2], (1, 3, 2), [1] * 8, [2, 1, 1, 2, 1, 1, 1, 2],
)

OF_200_ROWS = ([200], [1] * 7 + [200], [200] + [1] * 7, [10, 20], (2, 2, 2, 5, 5), [100, 2])

OF_MORE_ROWS = ([3, 67], (200, 2), [2] * 8, [200] * 8)


def rows_before(bounds):
    """The rows of the box of all bounds but the last, ascending."""
    return list(product(*[range(bound) for bound in bounds[:-1]]))


def heights_by_trial(bounds, lot):
    rows = box_rows(bounds)
    inside = {rows[thing] for thing in lot}
    return [sum([row + (y,) in inside for y in range(bounds[-1])]) for row in rows_before(bounds)]


def are_heights_by_trial(bounds, heights):
    rows = rows_before(bounds)
    return all(
        heights[i] <= heights[j] for i, low in enumerate(rows) for j, high in enumerate(rows)
        if all(x <= y for x, y in zip(low, high))
    )


class HeightsTest(ProgramTest):

    def test_all_closed_lots_of_small_boxes(self):
        for bounds in SMALL_BOUNDS:
            for lot in lots(box(bounds)):
                heights = heights_by_trial(bounds, lot)
                self.gives(heights, lot_heights, bounds, lot)
                self.gives(heights, lot_heights, tuple(bounds), list(lot))
                self.gives(True, is_heights, bounds, heights)
                self.gives(lot, lot_of_heights, bounds, heights)
                self.gives(lot, lot_of_heights, list(bounds), tuple(heights))

    def test_all_heights_of_small_boxes(self):
        for bounds in ([3], [2, 2], [3, 2], (2, 2, 2), [2, 3]):
            many = len(rows_before(bounds))
            right = 0
            for heights in product(range(bounds[-1] + 1), repeat=many):
                expected = are_heights_by_trial(bounds, heights)
                right += expected
                self.gives(expected, is_heights, bounds, heights)
                self.assertIs(is_heights(bounds, list(heights)), expected)
                if not expected:
                    self.refused(BadThings(None), lot_of_heights, bounds, heights)
            self.assertEqual(right, len(lots(box(bounds))))

    def test_the_example_and_names(self):
        self.gives([1, 1], lot_heights, [2, 2], (1, 3))
        self.gives([0, 2], lot_heights, lot=[2, 3], bounds=(2, 2))
        self.gives((1, 3), lot_of_heights, heights=(1, 1), bounds=[2, 2])
        self.gives(True, is_heights, heights=[0, 1], bounds=[2, 2])
        self.gives(False, is_heights, heights=[1, 0], bounds=[2, 2])

    def test_one_bound_has_one_height(self):
        for height in range(6):
            self.gives(tuple(range(5 - height, 5)), lot_of_heights, [5], [height])
            self.gives([height], lot_heights, [5], tuple(range(5 - height, 5)))
        self.judges_not(([], [6], [-1], [0, 0], [5, 5]), is_heights, [5])

    def test_rising_equal_and_zero_heights(self):
        self.gives(True, is_heights, [4, 3], [0, 1, 2, 3])
        self.gives((5, 7, 8, 9, 10, 11), lot_of_heights, [4, 3], [0, 1, 2, 3])
        self.gives((2, 5, 8, 11), lot_of_heights, [4, 3], [1, 1, 1, 1])
        self.gives((), lot_of_heights, [4, 3], [0, 0, 0, 0])
        self.gives(tuple(range(12)), lot_of_heights, [4, 3], (3, 3, 3, 3))
        self.judges_not(([1, 0, 2, 3], (3, 3, 3, 2), [1, 1, 1, 0]), is_heights, [4, 3])
        # Rows that are not comparable may have any two heights.
        self.gives(True, is_heights, [2, 2, 3], [0, 3, 1, 3])
        self.gives(True, is_heights, [2, 2, 3], [0, 1, 3, 3])
        self.gives(False, is_heights, [2, 2, 3], [0, 3, 1, 2])
        self.gives(False, is_heights, [2, 2, 3], [2, 3, 1, 3])

    def test_exactly_200_rows(self):
        for bounds in OF_200_ROWS:
            many = len(rows_before(bounds))
            deep = bounds[-1]
            self.gives([0] * many, lot_heights, bounds, ())
            self.gives([deep] * many, lot_heights, bounds, list(range(200)))
            self.gives(tuple(range(200)), lot_of_heights, bounds, [deep] * many)
            self.gives((), lot_of_heights, bounds, (0,) * many)
            self.gives((199,), lot_of_heights, bounds, [0] * (many - 1) + [1])
            self.gives(True, is_heights, bounds, [0] * (many - 1) + [deep])
            self.gives(many == 1, is_heights, bounds, [deep] + [0] * (many - 1))

    def test_more_than_200_closed_lots(self):
        self.gives(list(range(11)) + [10] * 9, lot_heights, [20, 10], lot_of_heights([20, 10], [*range(11), *[10] * 9]))

    def test_more_than_200_rows(self):
        for bounds in OF_MORE_ROWS:
            many = len(bounds)
            for value in ((), [], None, [0], [0] * many, [None]):
                self.refused(TooMany(200), lot_heights, bounds, value)
                self.refused(TooMany(200), lot_of_heights, bounds, value)
                self.refused(TooMany(200), is_heights, bounds, value)

    def test_wrong_bounds(self):
        for bounds, bad_at in WRONG_BOUNDS:
            for call in (lot_heights, lot_of_heights, is_heights):
                self.refused(BadBounds(bad_at), call, bounds, None)

    def test_wrong_lots(self):
        for lot in NOT_SEQUENCES + ([0], [2], (3, 1), [1, 1], [[3]], (4,), (3, 4), (0, 1, 2, 3, 4), {3: 1}):
            self.refused(BadThings(None), lot_heights, [2, 2], lot)
        for member in NOT_INTEGERS + (-1, 4, HUGE, -HUGE):
            self.refused(BadThings(None), lot_heights, (2, 2), [member])
            self.refused(BadThings(None), lot_heights, [2, 2], (3, member))

    def test_wrong_heights(self):
        for heights in NOT_SEQUENCES + ([], [0], [0, 0, 0], [3, 3], (2, 1), [-1, 0], [0, 3], {0: 0, 1: 0}):
            self.refused(BadThings(None), lot_of_heights, [2, 2], heights)
        for member in NOT_INTEGERS + (-1, 3, HUGE, -HUGE):
            self.refused(BadThings(None), lot_of_heights, [2, 2], [0, member])
            self.gives(False, is_heights, [2, 2], (0, member))

    def test_judged_values_of_every_kind(self):
        self.judges_not(ODD_VALUES, is_heights, [2, 2])
        self.judges_not(spoiled([0, 1]), is_heights, [2, 2])
        self.judges_not(spoiled((1, 1, 2)), is_heights, (3, 2))
        self.gives(True, is_heights, [2, 2], as_lists((0, 1)))

    def test_a_later_change(self):
        heights = lot_heights([2, 2], (1, 3))
        heights[0] = 0
        self.gives([1, 1], lot_heights, [2, 2], (1, 3))
        self.gives((3,), lot_of_heights, [2, 2], heights)
        heights[1] = 2
        self.gives((2, 3), lot_of_heights, [2, 2], heights)

    def test_equal_calls_with_others_in_between(self):
        def answers():
            return shown([lot_heights([2, 2], [1, 3]), lot_of_heights([3, 2], [0, 1, 2]), is_heights([2, 2], [1, 0])])
        before = answers()
        lot_heights([2, 3], (2, 5))
        lot_of_heights([2, 2, 2], [0, 1, 1, 2])
        self.assertEqual(answers(), before)


if __name__ == "__main__":
    unittest.main()
