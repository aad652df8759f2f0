"""Orders: things of which some are at or below others, and ways to make them."""

from huewalks.checks import check_number, first_outside, is_between, is_sequence
from huewalks.errors import BadOrder, BadThings, TooMany

MOST_THINGS = 200


class Order:
    """Things 0, 1, .. of which some are at or below others; it never changes."""

    def __init__(self, size, pairs=()):
        check_number(0, MOST_THINGS, size)
        if not is_sequence(pairs):
            raise BadOrder(None)
        for i, pair in enumerate(pairs):
            if not _is_rising_pair(size, pair):
                raise BadOrder(i)
        # Bit b of the integer with index a tells whether a is at or below b.
        self._reach = _reach_of(size, pairs)

    @property
    def size(self):
        """The number of things."""
        return len(self._reach)

    @property
    def covers(self):
        """All pairs (a, b) in which a is covered by b, in ascending order."""
        return [(a, b) for a in range(len(self._reach)) for b in _next_above(self._reach, a)]

    def __len__(self):
        return len(self._reach)

    def __eq__(self, other):
        return isinstance(other, Order) and self._reach == other._reach

    def __ne__(self, other):
        return not self == other

    def __mul__(self, other):
        """The product: the thing (a, b) has the number a * len(other) + b."""
        wide = len(other)
        check_size(len(self) * wide)
        # One goes up in a product by single steps of one part, the other part staying as it is.
        inner = other.covers
        pairs = [(a * wide + b, c * wide + b) for a, c in self.covers for b in range(wide)]
        pairs = pairs + [(a * wide + b, a * wide + d) for a in range(len(self)) for b, d in inner]
        return Order(len(self) * wide, pairs)

    def __add__(self, other):
        """The stack: every thing of this order below every thing of the other one."""
        shift = len(self)
        check_size(shift + len(other))
        between = [(a, shift + b) for a in range(shift) for b in range(len(other))]
        return Order(shift + len(other), _covers_beside(self, other) + between)

    def __neg__(self):
        """The turned order: thing a as the number len(self) - 1 - a."""
        last = len(self) - 1
        return Order(len(self), [(last - b, last - a) for a, b in self.covers])

    def at_or_below(self, a, b):
        """True if a is at or below b."""
        check_thing(self, a)
        check_thing(self, b)
        return (self._reach[a] >> b) & 1 == 1

    def comparable(self, a, b):
        """True if one of the two things is at or below the other."""
        return self.at_or_below(a, b) or self.at_or_below(b, a)

    def above(self, thing):
        """All things that this one is at or below, ascending."""
        check_thing(self, thing)
        return things_in(self._reach[thing])

    def beneath(self, thing):
        """All things that are at or below this one, ascending."""
        check_thing(self, thing)
        return [a for a in range(len(self._reach)) if (self._reach[a] >> thing) & 1 == 1]

    def beside(self, other):
        """Both orders with no thing of the one comparable with a thing of the other."""
        check_order(other)
        check_size(len(self) + len(other))
        return Order(len(self) + len(other), _covers_beside(self, other))


def check_order(order):
    """Refuse what is not an order."""
    if not isinstance(order, Order):
        raise BadOrder(None)


def check_thing(order, thing):
    """Refuse what is not a thing of the order."""
    check_number(0, len(order) - 1, thing)


def check_things(order, things):
    """Refuse what is not a sequence of things of the order."""
    if not is_sequence(things):
        raise BadThings(None)
    wrong = first_outside(0, len(order) - 1, things)
    if wrong is not None:
        raise BadThings(wrong)


def check_size(size):
    """Refuse a number of things that no order has."""
    if size > MOST_THINGS:
        raise TooMany(MOST_THINGS)


def chain_order(size):
    """The order in which a is at or below b if a <= b."""
    check_number(0, MOST_THINGS, size)
    return Order(size, [(a, a + 1) for a in range(size - 1)])


def loose_order(size):
    """The order in which each thing is at or below itself alone."""
    return Order(size)


def is_closed(order, lot):
    """True if the value is a closed lot of the order."""
    check_order(order)
    if not is_sequence(lot) or first_outside(0, len(order) - 1, lot) is not None:
        return False
    return tuple(lot) == closure(order, lot)


def closure(order, things):
    """The least closed lot that has all these things."""
    check_order(order)
    check_things(order, things)
    inside = {}
    for thing in sorted(set(things)):
        for b in order.above(thing):
            inside[b] = True
    return tuple(sorted(inside))


def things_in(bits):
    """The ascending list of the things whose bits are set."""
    return [thing for thing in range(bits.bit_length()) if (bits >> thing) & 1 == 1]


def bits_of(things):
    """The integer in which the bits of these unlike things are set."""
    return sum([1 << thing for thing in things])


def _is_rising_pair(size, value):
    """True for a sequence of exactly two things, the first less than the second."""
    if not is_sequence(value) or len(value) != 2:
        return False
    return is_between(0, size - 1, value[1]) and is_between(0, value[1] - 1, value[0])


def _reach_of(size, pairs):
    """For each thing the bits of the things that one can go to from it by the pairs, itself too."""
    reach = [1 << a for a in range(size)]
    # Pairs rise, so with the greatest first members first the second member's bits are already all there.
    for a, b in sorted([(pair[0], pair[1]) for pair in pairs], reverse=True):
        reach[a] = reach[a] | reach[b]
    return reach


def _next_above(reach, a):
    """The ascending list of the things that a is covered by."""
    higher = [b for b in things_in(reach[a]) if b != a]
    beyond = 0
    for b in higher:
        beyond = beyond | (reach[b] ^ (1 << b))
    return [b for b in higher if (beyond >> b) & 1 == 0]


def _covers_beside(first, second):
    """The covers of both orders, the things of the second one numbered behind those of the first."""
    shift = len(first)
    return first.covers + [(a + shift, b + shift) for a, b in second.covers]
