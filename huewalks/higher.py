"""Layings of orders on orders: between boxes and towers of other bounds, and on orders of closed lots."""

from huewalks.box import box, box_rows, check_box, count_rows, row_number
from huewalks.checks import MOST_BOUND, MOST_HUES, check_bounds, check_number, is_between, is_filled, is_sequence
from huewalks.closedlots import lots, tower, up
from huewalks.errors import BadBounds, BadLaying, BadThings
from huewalks.lay import check_images, check_laying
from huewalks.orders import bits_of, check_order, check_size, closure
from huewalks.walks import LEAST_SPAN, MOST_SPAN, check_walk_limit
from huewalks.webs import check_web


def is_order_laying(order, target, laying):
    """True if the value is an order laying of the order on the target."""
    check_order(order)
    check_order(target)
    return is_filled(len(order), 0, len(target) - 1, laying) and _is_kept(order, target, laying)


def wider_map(bounds, more):
    """The laying of the box on a wider box that puts zeros at the end of the rows."""
    check_box(bounds)
    _check_wider(bounds, more)
    check_size(count_rows(more))
    return _wider_rows(bounds, more)


def parted_map(bounds, hue, first, second):
    """The laying of the box on the box in which the bound of the hue is parted into two factors."""
    check_box(bounds)
    check_number(0, len(bounds) - 1, hue)
    check_number(1, MOST_BOUND, first)
    check_number(1, MOST_BOUND, second)
    if first * second != bounds[hue]:
        raise BadBounds(hue)
    if len(bounds) == MOST_HUES:
        raise BadBounds(None)
    parted = [*bounds[:hue], first, second, *bounds[hue + 1:]]
    rows = [row[:hue] + (row[hue] // second, row[hue] % second) + row[hue + 1:] for row in box_rows(bounds)]
    return [row_number(parted, row) for row in rows]


def renamed_map(bounds, sources):
    """The laying of the box on the box whose bounds are in the order of the sources."""
    check_box(bounds)
    _check_sources(len(bounds), sources)
    renamed = [bounds[source] for source in sources]
    return [row_number(renamed, [row[source] for source in sources]) for row in box_rows(bounds)]


def principal_map(order):
    """The laying of the order on the order of its closed lots that gives each thing its closure."""
    numbers = _lot_numbers(order)
    return [numbers[closure(order, (thing,))] for thing in range(len(order))]


def lifted_map(order, target, laying):
    """The laying of the closed lots of the order on those of the target that an order laying gives."""
    check_order(order)
    check_order(target)
    lots(order)
    lots(target)
    check_images(len(order), len(target), laying)
    if not _is_kept(order, target, laying):
        raise BadLaying(None)
    return _lifted(order, target, laying)


def tower_map(span, bounds, more):
    """The laying of the tower on the tower of wider bounds."""
    tower(span, bounds)
    _check_wider(bounds, more)
    tower(span, more)
    lifted = _wider_rows(bounds, more)
    order = box(bounds)
    target = box(more)
    for _ in range(span - LEAST_SPAN):
        lifted = _lifted(order, target, lifted)
        order = up(order)
        target = up(target)
    return lifted


def next_span_laying(web, span, bounds, laying):
    """The laying of the web on the tower of the next span that gives each place the closure of its thing."""
    check_web(web)
    check_number(LEAST_SPAN, MOST_SPAN - 1, span)
    check_walk_limit(web, span)
    tower(span + 1, bounds)
    order = tower(span, bounds)
    check_laying(web, order, laying)
    closures = principal_map(order)
    return [closures[thing] for thing in laying]


def _is_kept(order, target, laying):
    """True if things are at or below others in the target only where the things that they stand for are."""
    beneath = [bits_of(order.beneath(thing)) for thing in range(len(order))]
    for x, bits in enumerate(beneath):
        near = {thing: True for thing in target.beneath(laying[x])}
        if any([(bits >> y) & 1 == 0 and laying[y] in near for y in range(len(laying))]):
            return False
    return True


def _wider_rows(bounds, more):
    """The numbers, in the wider box, of the rows with zeros at their end."""
    zeros = (0,) * (len(more) - len(bounds))
    return [row_number(more, row + zeros) for row in box_rows(bounds)]


def _lot_numbers(order):
    """The dict from each closed lot to its number."""
    return {lot: i for i, lot in enumerate(lots(order))}


def _lifted(order, target, laying):
    """For each closed lot the number of the closure of the things that its things go to."""
    numbers = _lot_numbers(target)
    return [numbers[closure(target, [laying[thing] for thing in lot])] for lot in lots(order)]


def _check_wider(bounds, more):
    """Refuse what are not bounds that are as many and as great as these, or more and greater."""
    check_bounds(more)
    if len(more) < len(bounds):
        raise BadBounds(None)
    for c, bound in enumerate(bounds):
        if more[c] < bound:
            raise BadBounds(c)


def _check_sources(many, sources):
    """Refuse what is not a sequence of all the integers below many, in any order."""
    if not is_sequence(sources) or len(sources) != many:
        raise BadThings(None)
    for i, source in enumerate(sources):
        if not is_between(0, many - 1, source) or source in sources[:i]:
            raise BadThings(i)
