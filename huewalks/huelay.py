"""Hueings that keep the bounds turned into layings on the tower, and back."""

from huewalks.box import box, first_rise, row_number
from huewalks.checks import is_between, is_sequence
from huewalks.closedlots import tower
from huewalks.errors import BadThings, TooLong
from huewalks.lay import find_laying
from huewalks.layhue import lift_times, lower_times
from huewalks.linewebs import joins, line_web_times, order_web
from huewalks.roads import depths, long_road
from huewalks.walks import LEAST_SPAN, check_web_span
from huewalks.webs import check_web, path_web


def box_laying(web, bounds, hues):
    """The laying on the box of a hueing for span 2 that keeps the bounds."""
    return laying_of(web, LEAST_SPAN, bounds, hues)


def box_hues(web, bounds, laying):
    """The hueing for span 2 of a laying on the box."""
    return hueing_of(web, LEAST_SPAN, bounds, laying)


def laying_of(web, span, bounds, hues):
    """The laying on the tower of a hueing that keeps the bounds."""
    check_tower_question(web, span, bounds)
    found = long_road(web, span, bounds, hues)
    if found is not None:
        hue, road = found
        raise TooLong(hue, road)
    # A walk of span - 1 places is a place of the line web taken span - 2 times, and the list of hues is the same.
    entries = [depths(web, span, hues, hue, bound) for hue, bound in enumerate(bounds)]
    rows = [row_number(bounds, row) for row in zip(*entries)]
    return lift_times(web, box(bounds), span - LEAST_SPAN, rows)


def hueing_of(web, span, bounds, laying):
    """The hueing of a laying on the tower."""
    check_tower_question(web, span, bounds)
    rows = lower_times(web, box(bounds), span - LEAST_SPAN, laying)
    return [first_rise(bounds, rows[u], rows[v]) for u, v in line_web_times(web, span - LEAST_SPAN)]


def told_hue(span, bounds, things):
    """The told hue of things of the tower, each joined to the next by the arrow rule."""
    order = tower(span, bounds)
    _check_joined(order, span, things)
    # The things lay a path on the tower, and the path has one walk of span places.
    return hueing_of(path_web(span), span, bounds, things)[0]


def told_hueing(span, bounds):
    """The hueing of the web of the tower in which each walk has its told hue."""
    web = order_web(tower(span, bounds))
    return hueing_of(web, span, bounds, list(range(len(web))))


def can_hue(web, span, bounds):
    """True if some hueing of the web keeps the bounds."""
    return find_laying(web, check_tower_question(web, span, bounds)) is not None


def check_tower_question(web, span, bounds):
    """The tower of the span and the bounds; a wrong web, span or bounds are refused."""
    check_web(web)
    check_web_span(web, span)
    return tower(span, bounds)


def _check_joined(order, many, things):
    """Refuse what is not a sequence of so many things, each joined to the next by the arrow rule."""
    if not is_sequence(things) or len(things) != many:
        raise BadThings(None)
    for i, thing in enumerate(things):
        if not is_between(0, len(order) - 1, thing):
            raise BadThings(i)
        if i >= 1 and not joins(order, things[i - 1], thing):
            raise BadThings(i)
