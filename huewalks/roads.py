"""Roads of one hue, and the hueings of a web that keep the bounds."""

from huewalks.checks import MOST_HUES, check_bounds, check_number
from huewalks.errors import TooMany
from huewalks.walks import check_hues, check_web_span, count_walks, hue_table, is_walk, list_walks, windows
from huewalks.webs import check_web

MOST_STEPS = 200
MOST_FREE_WALKS = 10
MOST_HUEINGS = 1024


def is_road(web, span, hues, hue, road):
    """True if the value is a road of the hue with 0 or more steps."""
    table = hue_table(web, span, hues)
    check_number(0, MOST_HUES - 1, hue)
    if not is_walk(web, road) or len(road) < span - 1:
        return False
    return all([table[window] == hue for window in windows(road, span)])


def depths(web, span, hues, hue, cap):
    """For each walk of span - 1 places the most steps, up to cap, of a road of the hue that ends in it."""
    _check_road_question(web, span, hues, hue, cap)
    links = links_of_hue(list_links(web, span), hues, hue)
    return most_steps(count_walks(web, span - 1), links, cap)


def heads(web, span, hues, hue, cap):
    """For each walk of span - 1 places the most steps, up to cap, of a road of the hue that begins with it."""
    _check_road_question(web, span, hues, hue, cap)
    links = links_of_hue(list_links(web, span), hues, hue)
    return most_steps(count_walks(web, span - 1), _turned_links(links), cap)


def longest(web, span, hues, hue, cap):
    """The most steps, up to cap, of a road of the hue; 0 if there is no road at all."""
    return max(depths(web, span, hues, hue, cap), default=0)


def least_road(web, span, hues, hue, steps):
    """The least road of the hue with exactly this many steps; None if there is none."""
    _check_road_question(web, span, hues, hue, steps)
    links = links_of_hue(list_links(web, span), hues, hue)
    return least_road_along(list_walks(web, span - 1), links, steps)


def keeps_bounds(web, span, bounds, hues):
    """True if no hue has a road with as many steps as its bound."""
    _check_bounds_question(web, span, bounds, hues)
    return _first_long_hue(count_walks(web, span - 1), list_links(web, span), bounds, hues) is None


def long_road(web, span, bounds, hues):
    """The least hue that has a road with as many steps as its bound, and the least such road; None if none has."""
    _check_bounds_question(web, span, bounds, hues)
    walks = list_walks(web, span - 1)
    links = list_links(web, span)
    hue = _first_long_hue(len(walks), links, bounds, hues)
    if hue is None:
        return None
    return (hue, least_road_along(walks, links_of_hue(links, hues, hue), bounds[hue]))


def find_hueing(web, span, bounds):
    """The least hueing that keeps the bounds; None if there is none."""
    check_web(web)
    check_web_span(web, span)
    check_bounds(bounds)
    links = list_links(web, span)
    if len(links) > MOST_FREE_WALKS:
        raise TooMany(MOST_FREE_WALKS)
    many_ends = count_walks(web, span - 1)
    for hues in _all_hueings(len(links), len(bounds)):
        if _first_long_hue(many_ends, links, bounds, hues) is None:
            return hues
    return None


def list_links(web, span):
    """For each walk of span places the indices of its first and of its last span - 1 places, of right arguments.

    These are indices of the ascending list of walks of span - 1 places.
    """
    numbers = {walk: i for i, walk in enumerate(list_walks(web, span - 1))}
    return [(numbers[walk[:-1]], numbers[walk[1:]]) for walk in list_walks(web, span)]


def links_of_hue(links, hues, hue):
    """The links whose walks have the hue."""
    return [link for link, worn in zip(links, hues) if worn == hue]


def most_steps(many_ends, links, cap):
    """The most steps, up to cap, that one can go along the links so as to end in each of the many ends."""
    most = [0] * many_ends
    live = links
    for steps in range(1, cap + 1):
        # A part of a road is a road, so a link that is too far from a beginning once stays so.
        live = [(u, v) for u, v in live if most[u] == steps - 1]
        if len(live) == 0:
            break
        for _, v in live:
            most[v] = steps
    return most


def least_road_along(walks, links, steps):
    """The least road along the links with exactly this many steps; None if there is none."""
    ahead = most_steps(len(walks), _turned_links(links), steps)
    if steps not in ahead:
        return None
    at = ahead.index(steps)
    road = walks[at]
    for rest in range(steps - 1, -1, -1):
        # The walks that follow one walk differ in their last places alone, so the least index is the least place.
        at = min([v for u, v in links if u == at and ahead[v] >= rest])
        road = road + walks[at][-1:]
    return road


def _check_road_question(web, span, hues, hue, steps):
    """Refuse wrong arguments of a function about roads of one hue with this many steps."""
    check_web(web)
    check_web_span(web, span)
    check_hues(web, span, MOST_HUES, hues)
    check_number(0, MOST_HUES - 1, hue)
    check_number(0, MOST_STEPS, steps)


def _check_bounds_question(web, span, bounds, hues):
    """Refuse wrong arguments of a function about a hueing and its bounds."""
    check_web(web)
    check_web_span(web, span)
    check_bounds(bounds)
    check_hues(web, span, len(bounds), hues)


def _turned_links(links):
    """Each link the other way round."""
    return [(v, u) for u, v in links]


def _first_long_hue(many_ends, links, bounds, hues):
    """The least hue that has a road with as many steps as its bound; None if none has."""
    for hue, bound in enumerate(bounds):
        if bound in most_steps(many_ends, links_of_hue(links, hues, hue), bound):
            return hue
    return None


def _all_hueings(many_walks, many_hues):
    """The ascending list of all hueings of so many walks."""
    hueings = [[]]
    for _ in range(many_walks):
        hueings = [hues + [hue] for hues in hueings for hue in range(many_hues)]
        if len(hueings) > MOST_HUEINGS:
            raise TooMany(MOST_HUEINGS)
    return hueings
