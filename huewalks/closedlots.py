"""Closed lots of an order, the order of these lots, and the tower of such orders."""

from huewalks.box import box, box_rows
from huewalks.checks import check_number
from huewalks.errors import BadThings
from huewalks.orders import Order, bits_of, check_order, check_size, check_thing, is_closed, things_in
from huewalks.walks import LEAST_SPAN, check_span

MOST_TIMES = 4
MOST_SPELLED_SPAN = 4


def lots(order):
    """The list of all closed lots, those with the most things first, equally large ones ascending."""
    check_order(order)
    found = [tuple(things_in(bits)) for bits in _closed_bits(order)]
    ranked = sorted([(-len(lot), lot) for lot in found])
    return [lot for _, lot in ranked]


def up(order):
    """The order of the closed lots, in which a lot is at or below each lot within it."""
    numbers = {bits_of(lot): i for i, lot in enumerate(lots(order))}
    pairs = []
    for bits, at in numbers.items():
        # From a closed lot one comes to each closed lot within it by taking away one thing at a time.
        smaller = [bits ^ (1 << thing) for thing in things_in(bits)]
        pairs.extend([(at, numbers[less]) for less in smaller if less in numbers])
    return Order(len(numbers), pairs)


def lot_number(order, lot):
    """The index of the lot in the list of all closed lots."""
    listed = lots(order)
    if not is_closed(order, lot):
        raise BadThings(None)
    return listed.index(tuple(lot))


def up_times(order, times):
    """The order of closed lots, taken this many times."""
    check_order(order)
    check_number(0, MOST_TIMES, times)
    raised = order
    for _ in range(times):
        raised = up(raised)
    return raised


def tower(span, bounds):
    """The order that a web which can be hued for this span within these bounds is laid on."""
    check_span(span)
    return up_times(box(bounds), span - LEAST_SPAN)


def spelled(span, bounds, thing):
    """The thing of the tower written out as rows, tuples of rows, or tuples of these."""
    check_number(LEAST_SPAN, MOST_SPELLED_SPAN, span)
    names = box_rows(bounds)
    order = box(bounds)
    for _ in range(span - LEAST_SPAN):
        names = [tuple([names[member] for member in lot]) for lot in lots(order)]
        order = up(order)
    check_thing(order, thing)
    return names[thing]


def _closed_bits(order):
    """All closed lots, each as the integer in which the bits of its things are set."""
    found = [0]
    # What a thing is below has greater numbers, so from the last thing down each lot is closed when it is found.
    for thing in range(len(order) - 1, -1, -1):
        needed = bits_of(order.above(thing)[1:])
        found = found + [bits | (1 << thing) for bits in found if bits & needed == needed]
        # The number never falls, so it need not be counted to its end.
        check_size(len(found))
    return found
