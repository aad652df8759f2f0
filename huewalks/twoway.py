"""Dyeings of webs, and webs whose arrows all go both ways."""

from huewalks.checks import check_number, check_things_below, is_filled
from huewalks.closedlots import tower
from huewalks.errors import BadThings, BadWeb, TooMany
from huewalks.huelay import check_tower_question, hueing_of
from huewalks.lay import check_laying
from huewalks.walks import check_web_span
from huewalks.webs import Web, check_web
from huewalks.width import chain_cover, wide_lot, width_of

MOST_DYES = 2000
MOST_DYED_PLACES = 8


def is_dyeing(web, many, dyes):
    """True if the value is a dyeing of the web with this many dyes."""
    check_web(web)
    check_number(0, MOST_DYES, many)
    return is_filled(len(web), 0, many - 1, dyes) and _keeps_ends_unlike(web, dyes)


def find_dyeing(web, many):
    """The least dyeing of the web with this many dyes; None if there is none."""
    check_web(web)
    check_number(0, MOST_DYES, many)
    _check_few_places(web)
    if _has_loop(web):
        return None
    return _least_dyeing(web, many, [])


def fewest_dyes(web):
    """The least number of dyes with which there is a dyeing; None if the web has a loop."""
    check_web(web)
    for many in range(len(web) + 1):
        if find_dyeing(web, many) is not None:
            return many
    return None


def greedy_dyes(web):
    """The dyeing that gives each place in turn the least dye that it can have; None if the web has a loop."""
    check_web(web)
    if _has_loop(web):
        return None
    dyes = []
    for _ in range(len(web)):
        taken = _dyes_beside(web, dyes)
        dye = 0
        while dye in taken:
            dye = dye + 1
        dyes.append(dye)
    return dyes


def is_two_way(web):
    """True if the value is a web in which each arrow has its reverse."""
    return isinstance(web, Web) and all([(v, u) in web for u, v in web])


def two_way_limit(span, bounds):
    """The number of dyes that a two-way web within the bounds has a dyeing with."""
    return width_of(tower(span, bounds))


def dye_laying(web, span, bounds, dyes):
    """The laying on the tower that gives each place the thing that its dye stands for."""
    things = wide_lot(check_tower_question(web, span, bounds))
    check_dyes(web, len(things), dyes)
    return [things[dye] for dye in dyes]


def two_way_hueing(web, span, bounds, dyes):
    """The hueing of the laying that the dyeing gives."""
    return hueing_of(web, span, bounds, dye_laying(web, span, bounds, dyes))


def laying_dyes(web, span, bounds, laying):
    """The dyeing that gives each place of the two-way web the number of the chain that has its thing."""
    check_two_way(web)
    order = check_tower_question(web, span, bounds)
    numbers = {thing: k for k, chain in enumerate(chain_cover(order)) for thing in chain}
    check_laying(web, order, laying)
    return [numbers[thing] for thing in laying]


def can_hue_two_way(web, span, bounds):
    """True if some hueing of the two-way web keeps the bounds."""
    check_two_way(web)
    check_web_span(web, span)
    return find_dyeing(web, two_way_limit(span, bounds)) is not None


def check_two_way(web):
    """Refuse what is not a two-way web."""
    if not is_two_way(web):
        raise BadWeb(None)


def check_dyes(web, many, dyes):
    """Refuse what is not a dyeing of the web with this many dyes."""
    check_things_below(len(web), many, dyes)
    if not _keeps_ends_unlike(web, dyes):
        raise BadThings(None)


def _check_few_places(web):
    """Refuse a web with too many places to search in."""
    if len(web) > MOST_DYED_PLACES:
        raise TooMany(MOST_DYED_PLACES)


def _has_loop(web):
    """True if an arrow of the web ends where it begins."""
    return any([u == v for u, v in web])


def _keeps_ends_unlike(web, dyes):
    """True if the two ends of each arrow have unlike dyes."""
    return all([dyes[u] != dyes[v] for u, v in web])


def _dyes_beside(web, dyes):
    """The dyes of those places, dyed already, that an arrow joins to the first place without a dye."""
    place = len(dyes)
    return [dyes[near] for near in web.out_of(place) + web.into(place) if near < place]


def _least_dyeing(web, many, dyes):
    """The least dyeing that begins with these dyes; None if there is none."""
    if len(dyes) == len(web):
        return dyes
    taken = _dyes_beside(web, dyes)
    # Dyes that no place has yet are alike, so of these only the least is tried.
    for dye in range(min(many, max(dyes, default=-1) + 2)):
        if dye not in taken:
            found = _least_dyeing(web, many, dyes + [dye])
            if found is not None:
                return found
    return None
