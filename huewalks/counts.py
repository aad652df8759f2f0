"""Numbers of things of a tower that are known without listing, and heights of closed lots of a box."""

from math import comb

from huewalks.box import box, check_box, count_rows
from huewalks.checks import MOST_BOUND, check_bounds, check_bounds_within, check_number, is_filled
from huewalks.errors import BadThings
from huewalks.orders import chain_order, is_closed

MOST_WHOLE = 400
MOST_SIDES = 3
MOST_PLANE_BOUND = 12
CUBE_NUMBERS = (3, 6, 20, 168)


def binomial(whole, chosen):
    """The number of ways to choose some of the whole things."""
    check_number(0, MOST_WHOLE, whole)
    check_number(0, MOST_WHOLE, chosen)
    return comb(whole, chosen)


def box_number(bounds):
    """The number of rows of the box."""
    check_bounds(bounds)
    return count_rows(bounds)


def threes_number(bounds):
    """The number of things of the tower of span 3, of at most three bounds."""
    check_bounds_within(1, MOST_SIDES, MOST_BOUND, bounds)
    # A bound of 1 adds no rows to a box, so it may stand for each bound that is not there.
    first, second, third = (list(bounds) + [1, 1])[:MOST_SIDES]
    over = 1
    under = 1
    # Each round has the factors of one i and all j.
    for i in range(first):
        over = over * comb(i + second + third, third)
        under = under * comb(i + third, third)
    return over // under


def cube_number(many):
    """The number of things of the tower of span 3, of this many bounds of 2."""
    check_number(1, len(CUBE_NUMBERS), many)
    return CUBE_NUMBERS[many - 1]


def fours_number(bound):
    """The number of things of the tower of span 4, of the bounds 2 and this one."""
    check_number(1, MOST_BOUND, bound)
    return 1 << (bound + 1)


def plane_determinant(bounds):
    """The number of things of the tower of span 3, of three bounds, as a determinant."""
    check_bounds_within(MOST_SIDES, MOST_SIDES, MOST_PLANE_BOUND, bounds)
    first, second, third = bounds
    table = [[_choices(first + second, first + i - j) for j in range(third)] for i in range(third)]
    return _determinant(table)


def lot_heights(bounds, lot):
    """For each row without its last entry the number of last entries with which it is in the closed lot."""
    if not is_closed(box(bounds), lot):
        raise BadThings(None)
    deep = bounds[-1]
    heights = [0] * (count_rows(bounds) // deep)
    for thing in lot:
        heights[thing // deep] = heights[thing // deep] + 1
    return heights


def lot_of_heights(bounds, heights):
    """The closed lot that has these heights."""
    if not is_heights(bounds, heights):
        raise BadThings(None)
    deep = bounds[-1]
    return tuple([row * deep + y for row, height in enumerate(heights) for y in range(deep - height, deep)])


def is_heights(bounds, heights):
    """True if the value is a sequence of the heights of some closed lot of the box."""
    check_box(bounds)
    deep = bounds[-1]
    if not is_filled(count_rows(bounds) // deep, 0, deep, heights):
        return False
    return all([heights[a] <= heights[b] for a, b in _shorter_rows(bounds).covers])


def _choices(whole, chosen):
    """The number of ways to choose some of the whole things, 0 for a number below 0."""
    if chosen < 0:
        return 0
    return comb(whole, chosen)


def _determinant(table):
    """The determinant of a table of integers whose upper left parts all have determinants other than 0."""
    rows = table
    divisor = 1
    # Bareiss's way of elimination, in which no division leaves a rest.
    while len(rows) > 1:
        head = rows[0]
        rows = [[(head[0] * row[j] - row[0] * head[j]) // divisor for j in range(1, len(row))] for row in rows[1:]]
        divisor = head[0]
    return rows[0][0]


def _shorter_rows(bounds):
    """The box of all bounds but the last; for one bound the order of the empty row alone."""
    if len(bounds) == 1:
        return chain_order(1)
    return box(bounds[:-1])
