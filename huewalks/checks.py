"""Checks of kinds and ranges that all parts of the program share."""

from huewalks.errors import BadBounds, BadNumber, BadText, BadThings

MOST_DIGITS = 4
MOST_HUES = 8
MOST_BOUND = 200


def is_whole(value):
    """True for an integer that is not a bool."""
    return isinstance(value, int) and not isinstance(value, bool)


def is_sequence(value):
    """True for a list or a tuple."""
    return isinstance(value, (list, tuple))


def is_between(low, high, value):
    """True for an integer from low to high."""
    return is_whole(value) and low <= value <= high


def first_outside(low, high, values):
    """The index of the first member that is not an integer from low to high; None if there is none."""
    for i, value in enumerate(values):
        if not is_between(low, high, value):
            return i
    return None


def is_filled(many, low, high, value):
    """True for a sequence of exactly this many integers from low to high."""
    return is_sequence(value) and len(value) == many and first_outside(low, high, value) is None


def is_rising(limit, value):
    """True for a sequence of integers from 0 to the limit minus 1, each greater than the one before."""
    if not is_sequence(value) or first_outside(0, limit - 1, value) is not None:
        return False
    return all([value[i] < value[i + 1] for i in range(len(value) - 1)])


def are_bounds(value):
    """True for a sequence of one bound for each of 1 to 8 hues."""
    if not is_sequence(value) or not is_between(1, MOST_HUES, len(value)):
        return False
    return first_outside(1, MOST_BOUND, value) is None


def check_number(low, high, value):
    """Refuse what is not an integer from low to high."""
    if not is_between(low, high, value):
        raise BadNumber()


def check_bounds(bounds):
    """Refuse what is not one bound for each of 1 to 8 hues."""
    check_bounds_within(1, MOST_HUES, MOST_BOUND, bounds)


def check_bounds_within(least, most, greatest, bounds):
    """Refuse what is not a sequence of least to most bounds, each at most the greatest."""
    if not is_sequence(bounds) or not is_between(least, most, len(bounds)):
        raise BadBounds(None)
    wrong = first_outside(1, greatest, bounds)
    if wrong is not None:
        raise BadBounds(wrong)


def check_things_below(many, limit, things):
    """Refuse what is not a sequence of exactly this many integers from 0 to the limit minus 1."""
    if not is_sequence(things) or len(things) != many:
        raise BadThings(None)
    wrong = first_outside(0, limit - 1, things)
    if wrong is not None:
        raise BadThings(wrong)


def check_text(text):
    """Refuse what is not a string."""
    if not isinstance(text, str):
        raise BadText(0)


def read_number(word):
    """The number from 0 to 9999 that the word writes; None for every other word."""
    # Longer words are never turned into integers: Python refuses thousands of digits.
    if len(word) > MOST_DIGITS:
        return None
    if not word.isascii() or not word.isdigit():
        return None
    if len(word) > 1 and word[0] == "0":
        return None
    return int(word)


def read_numbers(words):
    """The list of the numbers that the words write; None if one of them writes none."""
    numbers = [read_number(word) for word in words]
    return None if None in numbers else numbers
