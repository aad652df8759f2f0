"""What the tests of the program share."""

import unittest

from huewalks.errors import HueError
from huewalks.orders import Order
from huewalks.webs import Web

HUGE = 10 ** 399

ERROR_ATTRIBUTES = (
    "bad_at",
    "line_number",
    "most",
    "road_hue",
    "road_walk",
    "row_most",
    "bare_walk",
)

NOT_INTEGERS = (None, True, False, "1", "", [1], (1,), {}, {1: 1}, Web(1), Order(1))

NOT_SEQUENCES = (
    None, True, False, 0, 2, "", "01", {}, {0: 1, 1: 0}, Web(2, [(0, 1), (1, 0)]), Order(2, [(0, 1)]),
)

NOT_WEBS = (None, True, 0, 3, "web 3", [], (), (3, ()), [(0, 1)], {}, Order(3))

NOT_ORDERS = (None, True, 0, 3, "order 3", [], (), (3, ()), [(0, 1)], {}, Web(3))

NOT_SPANS = NOT_INTEGERS + (0, 1, -2, 7, HUGE, -HUGE)

# Each wrong value of bounds with the index that its refusal names.
WRONG_BOUNDS = [(value, None) for value in NOT_SEQUENCES + ([], (), [1] * 9, (0,) * 9, [None] * 9)]
for member in NOT_INTEGERS + (0, -1, 201, HUGE, -HUGE):
    WRONG_BOUNDS = WRONG_BOUNDS + [([member], 0), ((200, 1, member, 0), 2), ([1] * 7 + [member], 7)]


def shown(value):
    """A string that is equal for values that are equal in all members and all their kinds."""
    if isinstance(value, Web):
        return f"Web({shown(value.places)}, {shown(value.arrows)})"
    if isinstance(value, Order):
        return f"Order({shown(value.size)}, {shown(value.covers)})"
    if type(value) is list:
        return "[" + ", ".join([shown(member) for member in value]) + "]"
    if type(value) is tuple:
        return "(" + ", ".join([shown(member) for member in value]) + ",)"
    if type(value) is dict:
        return "{" + ", ".join([f"{shown(key)}: {shown(value[key])}" for key in value]) + "}"
    if type(value) is int:
        return hex(value)
    return f"{type(value).__name__} {value!r}"


def dense_web(places):
    """The web with an arrow from each place to each place, itself too."""
    return Web(places, [(u, v) for u in range(places) for v in range(places)])


def hub_web(into, out_of):
    """A web with into * out_of walks of 3 places, all through one hub, and none of 4 places."""
    hub = into + out_of
    arrows = [(i, hub) for i in range(into)] + [(hub, into + i) for i in range(out_of)]
    return Web(hub + 1, arrows)


def all_small_webs(most):
    """All webs with at most this many places."""
    webs = []
    for places in range(most + 1):
        pairs = [(u, v) for u in range(places) for v in range(places)]
        for bits in range(2 ** len(pairs)):
            webs.append(Web(places, [pair for i, pair in enumerate(pairs) if bits >> i & 1]))
    return webs


def reached_by_trial(size, pairs):
    """For each two things whether one can go from the first to the second by the pairs."""
    table = [[a == b for b in range(size)] for a in range(size)]
    for a, b in pairs:
        table[a][b] = True
    for c in range(size):
        for a in range(size):
            if table[a][c]:
                table[a] = [table[a][b] or table[c][b] for b in range(size)]
    return table


def table_of(order):
    """For each two things of the order whether the first is at or below the second."""
    return [[order.at_or_below(a, b) for b in range(order.size)] for a in range(order.size)]


def all_small_orders(most):
    """All orders with at most this many things, each once."""
    orders = {}
    for size in range(most + 1):
        pairs = [(a, b) for b in range(size) for a in range(b)]
        for bits in range(2 ** len(pairs)):
            order = Order(size, [pair for i, pair in enumerate(pairs) if bits >> i & 1])
            orders[shown(order)] = order
    return list(orders.values())


class ProgramTest(unittest.TestCase):
    """Checks of calls, which also see to it that no argument is changed."""

    def called(self, call, args, named):
        """What the call returns or raises, after a look at its arguments."""
        before = shown([list(args), named])
        try:
            answer = (call(*args, **named), None)
        except HueError as error:
            answer = (None, error)
        self.assertEqual(shown([list(args), named]), before, "an argument was changed")
        return answer

    def gives(self, expected, call, *args, **named):
        """The call returns exactly the expected value, each time it is made."""
        for _ in range(2):
            answer, error = self.called(call, args, named)
            self.assertIsNone(error, repr(error))
            self.assertEqual(shown(answer), shown(expected))
        return answer

    def refused(self, expected, call, *args, **named):
        """The call raises an error of exactly this class with exactly these attributes."""
        answer, error = self.called(call, args, named)
        self.assertIsNotNone(error, f"no error, but {answer!r}")
        self.assertIs(type(error), type(expected), repr(error))
        for name in ERROR_ATTRIBUTES:
            self.assertEqual(hasattr(error, name), hasattr(expected, name), name)
            if hasattr(expected, name):
                self.assertEqual(shown(getattr(error, name)), shown(getattr(expected, name)))
