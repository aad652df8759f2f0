"""Rows: how many places a row may have within the bounds, and rows in other webs."""

from huewalks.box import count_rows
from huewalks.checks import check_bounds, check_number, is_between, is_sequence
from huewalks.closedlots import tower
from huewalks.counts import MOST_SIDES, threes_number
from huewalks.errors import RowTooLong, TooMany
from huewalks.huelay import hueing_of
from huewalks.orders import bits_of, things_in
from huewalks.roads import long_road
from huewalks.walks import LEAST_SPAN, check_span
from huewalks.webs import MOST_ARROWS, MOST_PLACES, check_web, row_web

MOST_SEARCHED_PLACES = 10


def row_limit(span, bounds):
    """The greatest number of places of a row that can be hued within the bounds."""
    check_span(span)
    check_bounds(bounds)
    if span == LEAST_SPAN:
        return count_rows(bounds)
    if span == LEAST_SPAN + 1 and len(bounds) <= MOST_SIDES:
        return threes_number(bounds)
    return len(tower(span, bounds))


def row_hueing(places, span, bounds):
    """The hueing of the row that its identity laying on the tower gives."""
    check_number(0, MOST_PLACES, places)
    most = len(tower(span, bounds))
    if places > most:
        raise RowTooLong(most)
    return hueing_of(row_web(places), span, bounds, list(range(places)))


def is_row_in(web, places):
    """True if the value is a row in the web."""
    check_web(web)
    if not is_sequence(places):
        return False
    earlier = []
    for place in places:
        if not is_between(0, len(web) - 1, place) or place in earlier:
            return False
        if not all([(before, place) in web for before in earlier]):
            return False
        earlier.append(place)
    return True


def longest_row(web):
    """The least among the rows in the web with the most places."""
    check_web(web)
    if len(web) > MOST_SEARCHED_PLACES:
        raise TooMany(MOST_SEARCHED_PLACES)
    # Sets of places are integers with the bits of these places set.
    follow = [bits_of([v for v in web.out_of(u) if v != u]) for u in range(len(web))]
    most = _most_within(follow)
    row = []
    left = len(most) - 1
    while left > 0:
        place = [u for u in things_in(left) if most[left & follow[u]] + 1 == most[left]][0]
        row.append(place)
        left = left & follow[place]
    return row


def forced_road(span, bounds, hues):
    """The road that the hueing of a row of one place more than the row limit must have, with its hue."""
    places = row_limit(span, bounds) + 1
    # A row of so many places is no web, and has far too many walks of two places.
    if places > MOST_PLACES:
        raise TooMany(MOST_ARROWS)
    return long_road(row_web(places), span, bounds, hues)


def _most_within(follow):
    """For each set of places the most places of a row of some of them; follow tells what may follow each place."""
    most = [0]
    # What may follow a place within a set is a smaller set, and smaller sets are smaller integers.
    for places in range(1, 1 << len(follow)):
        most.append(max([1 + most[places & follow[u]] for u in things_in(places)]))
    return most
