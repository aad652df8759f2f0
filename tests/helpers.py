"""What the tests of the program share."""

import unittest

from huewalks.errors import HueError
from huewalks.orders import Order
from huewalks.webs import Web

HUGE = 10 ** 399

ERROR_ATTRIBUTES = (
    "bad_at",
    "line_number",
    "most",
    "road_hue",
    "road_walk",
    "row_most",
    "bare_walk",
)

NOT_INTEGERS = (None, True, False, "1", "", [1], (1,), {}, {1: 1}, Web(1), Order(1))

NOT_SEQUENCES = (
    None, True, False, 0, 2, "", "01", {}, {0: 1, 1: 0}, Web(2, [(0, 1), (1, 0)]), Order(2, [(0, 1)]),
)

NOT_WEBS = (None, True, 0, 3, "web 3", [], (), (3, ()), [(0, 1)], {}, Order(3))

NOT_ORDERS = (None, True, 0, 3, "order 3", [], (), (3, ()), [(0, 1)], {}, Web(3))

NOT_SPANS = NOT_INTEGERS + (0, 1, -2, 7, HUGE, -HUGE)

# Each wrong value of bounds with the index that its refusal names.
WRONG_BOUNDS = [(value, None) for value in NOT_SEQUENCES + ([], (), [1] * 9, (0,) * 9, [None] * 9)]
for member in NOT_INTEGERS + (0, -1, 201, HUGE, -HUGE):
    WRONG_BOUNDS = WRONG_BOUNDS + [([member], 0), ((200, 1, member, 0), 2), ([1] * 7 + [member], 7)]


# A list in a list, deeper than any argument needs to be.
DEEP = []
for _ in range(45):
    DEEP = [DEEP]

# Values for judges; a web with places and arrows, an order and bounds give none of them a right shape.
ODD_VALUES = NOT_SEQUENCES + (
    HUGE, -HUGE, "split", "clash", [[]], ((),), [None], (True,), ["0"], [[0]], ([0, 1],), [{}], [Web(1)], (Order(1),),
    DEEP, (DEEP, DEEP), [DEEP] * 4, ["split", 0, DEEP], ("split", DEEP, ()), ["clash", DEEP, DEEP], [DEEP, 0, ()],
    ("hue", DEEP, DEEP), ("road", DEEP, DEEP), ["hue", [0, 1], DEEP], [Web(1), Order(1), {}], [HUGE] * 4,
    ([-1, -1, -1],), [None] * 3, ["split"] * 3, {"split": 0}, ["split", 0], ("split", 0, (), ()),
)

# Towers as span and bounds: some of exactly 200 things, and some of more.
TOWERS_OF_200 = ((2, [200]), (2, [2, 10, 10]), (3, [199]), (4, (198,)), (5, [197]), (6, [196]))

TOWERS_OF_MORE = (
    (2, [3, 67]), (2, (200, 2)), (2, [200] * 8), (3, [200]), (3, [2] * 5), (3, [4, 6]), (4, [199]), (4, [2, 7]),
    (5, [2, 2, 2]), (6, (197,)), (6, [200] * 8),
)


def nested_tree(word, named, deep):
    """A tree with this many branches on a path and no other trees."""
    tree = (word, named, ())
    for _ in range(deep - 1):
        tree = (word, named, (tree,))
    return tree


CLASH = ("clash", 0, 9999)
ROAD = ("road", 9999, (0, 9999))

# A well-formed paper of each word.
WELL_FORMED = (
    ("hueing", [0, 9999]), ("laying", [1]), ("cases", ("split", 3, (CLASH, ("split", 3, ())))), ("row", [4, 4]),
    ("hues", ("hue", (0, 1), (ROAD, ("hue", (), ())))), ("loop", 9999), ("ties", ([0, 2], [[1], []])),
)

# Papers that are not well formed, whatever the question.
NOT_PAPERS = list(ODD_VALUES) + [
    [], (), ("hueing",), ("hueing", [], []), ("hueing", 0), ("laying", None), ("row", "01"), ("row", {0: 0}),
    ("loop", [0]), ("loop", -1), ("loop", 10000), ("loop", True), ("loop", None), ("loop", "0"), ("loop",),
    ("ties", []), ("ties", ([], [], [])), ("ties", ([0],)), ("ties", ([0], [0])), ("ties", ([[0]], [])), ("ties", [0, 1]),
    ("tie", ([0], [[0]])), (None, ([], [])), ("ties", ([0], {})), ("ties", ([0], ["0"])), ("ties", (0, [])), ("ties", {0: [], 1: []}),
    ("cases", ROAD), ("hues", CLASH), ("cases", ("hue", (), ())), ("hues", ("split", 0, ())),
    ("cases", ("split", 0, (ROAD,))), ("hues", ("hue", (), (CLASH,))), ("cases", ()), ("hues", None), ("cases", 0),
    ("cases", ("split", 0)), ("cases", ("clash", 0)), ("hues", ("road", 0)), ("hues", ("hue", (), (), ())),
    ("Hueing", []), ("hueing ", []), ("", []), (None, []), (0, 0), (["hueing"], []), (("loop",), 0), (Web(1), []),
    "loop", ["loop"], {"loop": 0}, ("loop", 0, 0), (("loop", 0),), ("cases", nested_tree("split", 0, 14)),
    ("hues", nested_tree("hue", (), 11)), ("cases", ("split", 0, (CLASH,) * 201)), ("hues", ("hue", (), (ROAD,) * 201)),
    ("hues", ("road", 0, (0,) * 10000)), ("hues", ("hue", (0,) * 10000, ())), ("hueing", [0] * 5000 + [10000]),
    ("cases", ("split", 0, (("split", 0, (CLASH,) * 99),) * 200)),
]


def shown(value):
    """A string that is equal for values that are equal in all members and all their kinds."""
    if isinstance(value, Web):
        return f"Web({shown(value.places)}, {shown(value.arrows)})"
    if isinstance(value, Order):
        return f"Order({shown(value.size)}, {shown(value.covers)})"
    if type(value) is list:
        return "[" + ", ".join([shown(member) for member in value]) + "]"
    if type(value) is tuple:
        return "(" + ", ".join([shown(member) for member in value]) + ",)"
    if type(value) is dict:
        return "{" + ", ".join([f"{shown(key)}: {shown(value[key])}" for key in value]) + "}"
    if type(value) is int:
        return hex(value)
    return f"{type(value).__name__} {value!r}"


def dense_web(places):
    """The web with an arrow from each place to each place, itself too."""
    return Web(places, [(u, v) for u in range(places) for v in range(places)])


def hub_web(into, out_of, hubs=1):
    """A web with into * out_of walks of hubs + 2 places, all through a path of hubs, and none with more places."""
    first = into + out_of
    last = first + hubs - 1
    arrows = [(i, first) for i in range(into)] + [(last, into + i) for i in range(out_of)]
    return Web(last + 1, arrows + [(hub, hub + 1) for hub in range(first, last)])


def all_small_webs(most):
    """All webs with at most this many places."""
    webs = []
    for places in range(most + 1):
        pairs = [(u, v) for u in range(places) for v in range(places)]
        for bits in range(2 ** len(pairs)):
            webs.append(Web(places, [pair for i, pair in enumerate(pairs) if bits >> i & 1]))
    return webs


def reached_by_trial(size, pairs):
    """For each two things whether one can go from the first to the second by the pairs."""
    table = [[a == b for b in range(size)] for a in range(size)]
    for a, b in pairs:
        table[a][b] = True
    for c in range(size):
        for a in range(size):
            if table[a][c]:
                table[a] = [table[a][b] or table[c][b] for b in range(size)]
    return table


def table_of(order):
    """For each two things of the order whether the first is at or below the second."""
    return [[order.at_or_below(a, b) for b in range(order.size)] for a in range(order.size)]


def all_small_orders(most):
    """All orders with at most this many things, each once."""
    orders = {}
    for size in range(most + 1):
        pairs = [(a, b) for b in range(size) for a in range(b)]
        for bits in range(2 ** len(pairs)):
            order = Order(size, [pair for i, pair in enumerate(pairs) if bits >> i & 1])
            orders[shown(order)] = order
    return list(orders.values())


def spoiled(value):
    """Copies of a nested value, in each of which one integer is replaced by a value of another kind or range."""
    if type(value) is int:
        yield from (None, str(value), [value], {}, -1, -value - 1, HUGE, -HUGE, Web(1))
        if value in (0, 1):
            yield bool(value)
    if type(value) in (list, tuple):
        for i, member in enumerate(value):
            for bad in spoiled(member):
                yield type(value)([*value[:i], bad, *value[i + 1:]])


def as_lists(value):
    """The same nested value with lists in the place of all tuples."""
    if type(value) in (list, tuple):
        return [as_lists(member) for member in value]
    return value


def is_tuples_throughout(tree):
    """True for strings and integers in tuples, nested in any way."""
    if type(tree) is tuple:
        return all([is_tuples_throughout(member) for member in tree])
    return type(tree) in (str, int)


class ProgramTest(unittest.TestCase):
    """Checks of calls, which also see to it that no argument is changed."""

    def judges_not(self, values, call, *args):
        """The judge returns False for each of these values behind the arguments."""
        for value in values:
            self.gives(False, call, *args, value)

    def called(self, call, args, named):
        """What the call returns or raises, after a look at its arguments."""
        before = shown([list(args), named])
        try:
            answer = (call(*args, **named), None)
        except HueError as error:
            answer = (None, error)
        self.assertEqual(shown([list(args), named]), before, "an argument was changed")
        return answer

    def gives(self, expected, call, *args, **named):
        """The call returns exactly the expected value, each time it is made."""
        for _ in range(2):
            answer, error = self.called(call, args, named)
            self.assertIsNone(error, repr(error))
            self.assertEqual(shown(answer), shown(expected))
        return answer

    def refused(self, expected, call, *args, **named):
        """The call raises an error of exactly this class with exactly these attributes."""
        answer, error = self.called(call, args, named)
        self.assertIsNotNone(error, f"no error, but {answer!r}")
        self.assertIs(type(error), type(expected), repr(error))
        for name in ERROR_ATTRIBUTES:
            self.assertEqual(hasattr(error, name), hasattr(expected, name), name)
            if hasattr(expected, name):
                self.assertEqual(shown(getattr(error, name)), shown(getattr(expected, name)))
