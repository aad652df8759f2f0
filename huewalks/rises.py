"""Tables of integers: the patterns of two rows, steady choices, and tables without long ones."""

from huewalks.box import box_rows, count_rows
from huewalks.checks import MOST_HUES, check_bounds, check_number, is_between, is_rising, is_sequence, is_whole
from huewalks.errors import BadBounds, BadTable, TooMany
from huewalks.roads import long_road
from huewalks.walks import LEAST_SPAN
from huewalks.webs import row_web

MOST_ROWS = 40
MOST_COLUMNS = 3
# For each number of columns from 1 the number of patterns.
PATTERN_NUMBERS = (2, 4, 8)


def pattern(earlier, later):
    """The number whose binary digits tell for each column whether it does not rise."""
    if not _is_row(earlier) or not _is_row(later) or len(earlier) != len(later):
        raise BadTable(None)
    return _pattern_of(earlier, later)


def table_hues(table):
    """The hueing for span 2 that gives each two rows of the table their pattern."""
    _check_table(table)
    return [_pattern_of(row, later) for i, row in enumerate(table) for later in table[i + 1:]]


def is_steady(table, hue, places):
    """True if the value is a sequence of ascending row indices any two of which have this pattern."""
    _check_table(table)
    check_number(0, MOST_HUES - 1, hue)
    if not is_rising(len(table), places):
        return False
    return all([_pattern_of(table[i], table[j]) == hue for k, j in enumerate(places) for i in places[:k]])


def steady_choice(table, bounds):
    """The least pattern with a steady choice of one row more than its bound, and the least such choice, or None."""
    _check_table(table)
    _check_pattern_bounds(PATTERN_NUMBERS if len(table) == 0 else (1 << len(table[0]),), bounds)
    # If an earlier row has a pattern with a later one, and that one with a third, the earlier has it with the third.
    # So a steady choice is a road, and its rows are one more than its steps.
    found = long_road(row_web(len(table)), LEAST_SPAN, bounds, table_hues(table))
    if found is None:
        return None
    hue, road = found
    return (hue, list(road))


def best_table(bounds):
    """The best table of the bounds, in which no steady choice has more rows than the bound of its pattern."""
    _check_pattern_bounds(PATTERN_NUMBERS, bounds)
    if count_rows(bounds) > MOST_ROWS:
        raise TooMany(MOST_ROWS)
    columns = PATTERN_NUMBERS.index(len(bounds)) + 1
    return [[_best_entry(bounds, row, columns - 1 - e) for e in range(columns)] for row in box_rows(bounds)]


def _best_entry(bounds, row, bit):
    """The number whose digits are the entries of the row, turned round where the entry's index has this bit."""
    number = 0
    for c, x in enumerate(row):
        digit = x if (c >> bit) & 1 == 0 else bounds[c] - 1 - x
        number = number * bounds[c] + digit
    return number


def _pattern_of(earlier, later):
    """The pattern of two rows that are right."""
    number = 0
    for before, behind in zip(earlier, later):
        number = 2 * number + (0 if behind > before else 1)
    return number


def _is_row(value):
    """True for a sequence of as many integers as a table may have columns."""
    if not is_sequence(value) or not is_between(1, MOST_COLUMNS, len(value)):
        return False
    return all([is_whole(member) for member in value])


def _check_table(table):
    """Refuse what is not a table."""
    if not is_sequence(table) or len(table) > MOST_ROWS:
        raise BadTable(None)
    for i, row in enumerate(table):
        if not _is_row(row) or len(row) != len(table[0]):
            raise BadTable(i)


def _check_pattern_bounds(sizes, bounds):
    """Refuse what are not bounds, and bounds that are not of one of these numbers."""
    if is_sequence(bounds) and len(bounds) not in sizes:
        raise BadBounds(None)
    check_bounds(bounds)
