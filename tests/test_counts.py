"""Numbers of things that are known without listing: points 5 and 22, and the first functions of huewalks.counts."""

import unittest
from fractions import Fraction
from itertools import permutations, product
from math import comb, prod

from huewalks.box import box
from huewalks.closedlots import lots, tower
from huewalks.counts import (
    binomial, box_number, cube_number, fours_number, plane_determinant, threes_number,
)
from huewalks.errors import BadBounds, BadNumber
from helpers import HUGE, NOT_INTEGERS, NOT_SEQUENCES, WRONG_BOUNDS, ProgramTest


def threes_by_formula(first, second, third):
    """The product of point 22 for three bounds, factor by factor."""
    sides = product(range(1, first + 1), range(1, second + 1))
    return prod([Fraction(i + j + third - 1, i + j - 1) for i, j in sides])


def determinant_by_terms(table):
    """The determinant as the sum of signed products, one for each permutation."""
    total = 0
    for columns in permutations(range(len(table))):
        falls = sum([1 for i in range(len(table)) for j in range(i) if columns[j] > columns[i]])
        total += (-1) ** falls * prod([table[i][columns[i]] for i in range(len(table))])
    return total


class BinomialTest(ProgramTest):

    def test_small_numbers(self):
        for whole, chosen in product(range(9), repeat=2):
            self.gives(comb(whole, chosen), binomial, whole, chosen)
        self.gives(10, binomial, chosen=2, whole=5)

    def test_the_edges(self):
        self.gives(1, binomial, 0, 0)
        self.gives(0, binomial, 0, 400)
        self.gives(0, binomial, 399, 400)
        self.gives(1, binomial, 400, 400)
        self.gives(400, binomial, 400, 399)
        self.gives(comb(400, 200), binomial, 400, 200)

    def test_wrong_numbers(self):
        for number in NOT_INTEGERS + (-1, 401, HUGE, -HUGE):
            self.refused(BadNumber(), binomial, number, 2)
            self.refused(BadNumber(), binomial, 2, number)


class BoxNumberTest(ProgramTest):

    def test_ordinary_answers(self):
        self.gives(6, box_number, [2, 3])
        self.gives(6, box_number, bounds=(1, 2, 3, 1))
        self.gives(1, box_number, [1])
        self.gives(1, box_number, [1] * 8)
        self.gives(200, box_number, [200])
        self.gives(200 ** 8, box_number, (200,) * 8)

    def test_it_is_the_number_of_things_of_the_tower(self):
        for bounds in ([1], [5], [2, 3], [2, 2, 2], [1, 4, 1]):
            self.gives(len(tower(2, bounds)), box_number, bounds)

    def test_wrong_bounds(self):
        for bounds, bad_at in WRONG_BOUNDS:
            self.refused(BadBounds(bad_at), box_number, bounds)


class ThreesNumberTest(ProgramTest):

    def test_one_and_two_bounds(self):
        for n in (1, 2, 7, 199, 200):
            self.gives(n + 1, threes_number, [n])
            for m in (1, 2, 9, 200):
                self.gives(comb(n + m, n), threes_number, (n, m))

    def test_three_bounds(self):
        for bounds in product(range(1, 6), repeat=3):
            self.gives(int(threes_by_formula(*bounds)), threes_number, list(bounds))
        self.gives(20, threes_number, [2, 2, 2])
        self.gives(980, threes_number, bounds=(3, 3, 3))

    def test_the_greatest_bounds(self):
        self.gives(2, threes_number, [1, 1, 1])
        self.gives(201, threes_number, [1, 200, 1])
        self.gives(comb(400, 200), threes_number, [1, 200, 200])
        for bounds in ((200, 1, 3), (3, 200, 1), (2, 3, 200)):
            self.gives(int(threes_by_formula(*bounds)), threes_number, bounds)
        greatest = threes_number([200, 200, 200])
        self.assertEqual(Fraction(greatest, threes_number([199, 200, 200])), prod(
            [Fraction(399 + j, 199 + j) for j in range(1, 201)]
        ))

    def test_the_order_of_the_bounds_does_not_matter(self):
        for bounds in permutations((7, 40, 123)):
            self.gives(threes_number([7, 40, 123]), threes_number, bounds)

    def test_it_is_the_number_of_closed_lots(self):
        for bounds in ([1], [6], [1, 5], [3, 4], [1, 1, 1], [2, 2, 3], [1, 3, 3], [3, 2, 2]):
            self.gives(len(lots(box(bounds))), threes_number, bounds)

    def test_wrong_bounds(self):
        for bounds in NOT_SEQUENCES + ([], (), [2] * 4, (0,) * 4, [None] * 5, [2] * 8, [2] * 9):
            self.refused(BadBounds(None), threes_number, bounds)
        for bound in NOT_INTEGERS + (0, -1, 201, HUGE, -HUGE):
            self.refused(BadBounds(0), threes_number, [bound])
            self.refused(BadBounds(1), threes_number, (200, bound, 0))
            self.refused(BadBounds(2), threes_number, [1, 200, bound])


class CubeAndFoursTest(ProgramTest):

    def test_cubes(self):
        for many in range(1, 5):
            self.gives((3, 6, 20, 168)[many - 1], cube_number, many)
            self.gives(len(tower(3, [2] * many)), cube_number, many=many)

    def test_fours(self):
        for bound in range(1, 7):
            self.gives(len(tower(4, [2, bound])), fours_number, bound)
        self.gives(4, fours_number, 1)
        self.gives(256, fours_number, bound=7)
        self.gives(2 ** 201, fours_number, 200)

    def test_wrong_numbers(self):
        for number in NOT_INTEGERS + (0, -1, HUGE, -HUGE):
            self.refused(BadNumber(), cube_number, number)
            self.refused(BadNumber(), fours_number, number)
        self.refused(BadNumber(), cube_number, 5)
        self.refused(BadNumber(), fours_number, 201)


class PlaneDeterminantTest(ProgramTest):

    def test_the_terms_of_small_tables(self):
        for first, second, third in product((1, 2, 3, 5), (1, 2, 4), range(1, 5)):
            whole = first + second
            table = [[comb(whole, first + i - j) if first + i >= j else 0 for j in range(third)] for i in range(third)]
            self.gives(determinant_by_terms(table), plane_determinant, [first, second, third])

    def test_it_is_the_number_of_three_bounds(self):
        for bounds in product((1, 2, 7, 11, 12), repeat=3):
            self.gives(threes_number(bounds), plane_determinant, bounds)
        self.gives(2, plane_determinant, bounds=[1, 1, 1])

    def test_wrong_bounds(self):
        for bounds in NOT_SEQUENCES + ([], (), [2], [2, 2], [2] * 4, (13, 13), [None] * 4, [0] * 8):
            self.refused(BadBounds(None), plane_determinant, bounds)
        for bound in NOT_INTEGERS + (0, -1, 13, 200, 201, HUGE, -HUGE):
            for i in range(3):
                bounds = [12, 1, 12]
                bounds[i] = bound
                self.refused(BadBounds(i), plane_determinant, bounds)
            self.refused(BadBounds(1), plane_determinant, (12, bound, bound))
        self.refused(BadBounds(0), plane_determinant, (13, 201, 0))


if __name__ == "__main__":
    unittest.main()
