"""The box of some bounds: points 5, 7 and 17, and huewalks.box."""

import unittest
from itertools import product

from huewalks.box import box, box_rows, first_rise, row_number, row_of_number
from huewalks.errors import BadBounds, BadNumber, BadThings, TooMany
from huewalks.orders import chain_order
from helpers import HUGE, NOT_INTEGERS, NOT_SEQUENCES, WRONG_BOUNDS, ProgramTest, table_of

SMALL_BOUNDS = ([1], [5], [1, 1], [2, 2], [2, 3], [3, 1, 2], [1] * 8, [2, 1, 2, 1, 1, 1, 1, 2], (4, 5))

OF_200_ROWS = ([200], [200] + [1] * 7, [10, 20], [2, 100], [2, 2, 2, 5, 5, 1, 1, 1], (1, 4, 50))

OF_MORE_ROWS = ([3, 67], [200, 2], [2] * 8, [200] * 8, (1, 2, 101))

# Far more rows than 200.
MANY = [200, 3, 200, 7, 200, 200, 200, 199]


def rows_by_trial(bounds):
    return list(product(*[range(bound) for bound in bounds]))


class BoxTest(ProgramTest):

    def test_rows(self):
        for bounds in SMALL_BOUNDS + OF_200_ROWS:
            self.gives(rows_by_trial(bounds), box_rows, bounds)
            self.assertEqual(rows_by_trial(bounds), sorted(rows_by_trial(bounds)))
        self.gives([(0, 0), (0, 1), (1, 0), (1, 1)], box_rows, [2, 2])
        self.gives([(0,), (1,), (2,)], box_rows, bounds=(3,))

    def test_the_order_of_the_rows(self):
        for bounds in SMALL_BOUNDS + OF_200_ROWS[2:]:
            rows = rows_by_trial(bounds)
            order = box(bounds)
            self.assertEqual(table_of(order), [
                [all(x <= y for x, y in zip(low, high)) for high in rows] for low in rows
            ])
        self.gives(chain_order(200), box, [200])
        self.gives(chain_order(200), box, bounds=(1, 1, 1, 200, 1, 1, 1, 1))
        self.gives(chain_order(1), box, [1])

    def test_exactly_200_rows_and_more(self):
        for bounds in OF_200_ROWS:
            self.assertEqual((len(box_rows(bounds)), len(box(bounds))), (200, 200))
        for bounds in OF_MORE_ROWS:
            self.refused(TooMany(200), box_rows, bounds)
            self.refused(TooMany(200), box, bounds)

    def test_wrong_bounds(self):
        for bounds, bad_at in WRONG_BOUNDS:
            self.refused(BadBounds(bad_at), box_rows, bounds)
            self.refused(BadBounds(bad_at), box, bounds)
            self.refused(BadBounds(bad_at), row_number, bounds, None)
            self.refused(BadBounds(bad_at), row_of_number, bounds, None)
            self.refused(BadBounds(bad_at), first_rise, bounds, None, None)
        self.refused(BadBounds(1), box, [200, 0, 200])
        self.refused(BadBounds(2), box_rows, (200, 200, 201, 0))

    def test_a_later_change(self):
        bounds = [2, 2]
        box_rows(bounds).clear()
        order = box(bounds)
        bounds[1] = 1
        self.gives([(0, 0), (1, 0)], box_rows, bounds)
        self.gives([(0, 0), (0, 1), (1, 0), (1, 1)], box_rows, [2, 2])
        self.assertIs(order == box([2, 2]), True)


class RowsTest(ProgramTest):

    def test_all_rows_of_small_boxes(self):
        for bounds in SMALL_BOUNDS:
            for number, row in enumerate(rows_by_trial(bounds)):
                self.gives(number, row_number, bounds, row)
                self.gives(number, row_number, tuple(bounds), list(row))
                self.gives(row, row_of_number, bounds, number)

    def test_by_name(self):
        self.gives(5, row_number, row=[1, 2], bounds=(2, 3))
        self.gives((1, 2), row_of_number, number=5, bounds=[2, 3])
        self.gives(0, first_rise, b=3, a=2, bounds=[2, 3])

    def test_far_beyond_200_rows(self):
        last = 200 * 3 * 200 * 7 * 200 * 200 * 200 * 199 - 1
        self.gives(last, row_number, MANY, [bound - 1 for bound in MANY])
        self.gives(tuple(bound - 1 for bound in MANY), row_of_number, MANY, last)
        self.gives((0,) * 8, row_of_number, MANY, 0)
        self.gives((0, 0, 0, 0, 0, 0, 1, 5), row_of_number, MANY, 204)
        self.gives((0, 0, 0, 0, 0, 0, 1, 0), row_of_number, tuple(MANY), 199)
        self.gives(204, row_number, MANY, (0, 0, 0, 0, 0, 0, 1, 5))
        self.gives(200 ** 8 - 1, row_number, [200] * 8, [199] * 8)
        self.gives(None, first_rise, MANY, last, last)
        self.gives(0, first_rise, MANY, 0, last)
        self.gives(6, first_rise, MANY, 198, 199)
        self.gives(7, first_rise, MANY, 199, 198)
        for number in (last + 1, last * 7, HUGE, -1, -last):
            self.refused(BadNumber(), row_of_number, MANY, number)
            self.refused(BadNumber(), first_rise, MANY, number, 0)
            self.refused(BadNumber(), first_rise, MANY, 0, number)

    def test_wrong_rows(self):
        for row in NOT_SEQUENCES + ([], [0], (0, 0, 0), [None], [9, 9, 9]):
            self.refused(BadThings(None), row_number, [2, 3], row)
        for x in NOT_INTEGERS + (-1, 3, HUGE, -HUGE):
            self.refused(BadThings(1), row_number, [2, 3], [1, x])
            self.refused(BadThings(1), row_number, [3, 3, 3, 3], (2, x, 0, None))
            self.refused(BadThings(0), row_number, [3, 2], (x, 2))
        self.refused(BadThings(0), row_number, [2, 3], [2, 0])
        self.refused(BadThings(1), row_number, [2, 3], [0, 3])

    def test_wrong_numbers(self):
        for number in NOT_INTEGERS + (-1, 6, 7, HUGE, -HUGE):
            self.refused(BadNumber(), row_of_number, [2, 3], number)
            self.refused(BadNumber(), first_rise, [2, 3], number, 0)
            self.refused(BadNumber(), first_rise, [2, 3], 5, number)

    def test_first_rise(self):
        for bounds in SMALL_BOUNDS:
            rows = rows_by_trial(bounds)
            for a, low in enumerate(rows):
                for b, high in enumerate(rows):
                    rises = [c for c in range(len(bounds)) if high[c] > low[c]]
                    self.gives(rises[0] if rises else None, first_rise, bounds, a, b)
        self.gives(1, first_rise, [2, 2], 2, 1)
        self.gives(0, first_rise, [2, 2], 1, 2)
        self.gives(None, first_rise, (2, 2), 3, 1)


if __name__ == "__main__":
    unittest.main()
