"""The box of some bounds: all rows of integers below the bounds, as an order."""

from huewalks.checks import check_bounds, check_number, is_between, is_sequence
from huewalks.errors import BadThings
from huewalks.orders import chain_order, check_size


def box_rows(bounds):
    """The ascending list of all rows of the box."""
    check_box(bounds)
    rows = [()]
    for bound in bounds:
        rows = [row + (x,) for row in rows for x in range(bound)]
    return rows


def box(bounds):
    """The order of the rows, in which a row is at or below another if each of its entries is."""
    check_box(bounds)
    # Things of a product are numbered as ascending rows are.
    rows = chain_order(1)
    for bound in bounds:
        rows = rows * chain_order(bound)
    return rows


def row_number(bounds, row):
    """The index of the row in the list of all rows."""
    check_bounds(bounds)
    if not is_sequence(row) or len(row) != len(bounds):
        raise BadThings(None)
    number = 0
    for c, x in enumerate(row):
        if not is_between(0, bounds[c] - 1, x):
            raise BadThings(c)
        number = number * bounds[c] + x
    return number


def row_of_number(bounds, number):
    """The row with this index in the list of all rows."""
    check_bounds(bounds)
    check_number(0, count_rows(bounds) - 1, number)
    entries = []
    rest = number
    for bound in bounds[::-1]:
        entries.append(rest % bound)
        rest = rest // bound
    return tuple(entries[::-1])


def first_rise(bounds, a, b):
    """The least index of an entry that is greater in the row of index b than in that of index a; None if none is."""
    earlier = row_of_number(bounds, a)
    later = row_of_number(bounds, b)
    for c in range(len(bounds)):
        if later[c] > earlier[c]:
            return c
    return None


def count_rows(bounds):
    """The number of rows of the box, of bounds that are right."""
    count = 1
    for bound in bounds:
        count = count * bound
    return count


def check_box(bounds):
    """Refuse what are not bounds, and bounds of a box with too many rows."""
    check_bounds(bounds)
    check_size(count_rows(bounds))
