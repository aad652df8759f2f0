"""Walks of a web, their windows, and the hueings of the walks of one length."""

from huewalks.checks import MOST_HUES, check_number, first_outside, is_between, is_sequence, is_whole
from huewalks.errors import BadHueing, BadNumber, BadWalk, TooMany
from huewalks.webs import check_web

MOST_WALKS = 2000
MOST_WALK_PLACES = 300
LEAST_SPAN = 2
MOST_SPAN = 6


def walk_number(web, places):
    """The number of walks with this many places."""
    check_web(web)
    check_number(1, MOST_WALK_PLACES, places)
    return count_walks(web, places)


def all_walks(web, places):
    """The ascending list of all walks with this many places."""
    check_web(web)
    check_number(1, MOST_WALK_PLACES, places)
    check_walk_limit(web, places)
    return list_walks(web, places)


def is_walk(web, walk):
    """True if the value is a walk of the web."""
    check_web(web)
    return is_sequence(walk) and len(walk) >= 1 and _first_misstep(web, walk) is None


def walk_rank(web, walk):
    """The index of the walk in the ascending list of all walks with equally many places."""
    check_web(web)
    check_walk(web, 1, MOST_WALK_PLACES, walk)
    counts = [1] * len(web)
    rank = 0
    # From the last place back, so that counts always fits the part of the walk that begins at place i.
    for i in range(len(walk) - 1, 0, -1):
        rank = rank + sum([counts[v] for v in web.out_of(walk[i - 1]) if v < walk[i]])
        counts = _count_longer(web, counts)
    return rank + sum(counts[:walk[0]])


def walk_of_rank(web, places, rank):
    """The walk with this index in the ascending list of all walks with this many places."""
    check_web(web)
    check_number(1, MOST_WALK_PLACES, places)
    tables = [[1] * len(web)]
    for _ in range(places - 1):
        tables.append(_count_longer(web, tables[-1]))
    check_number(0, sum(tables[-1]) - 1, rank)
    walk = []
    choices = list(range(len(web)))
    rest = rank
    for counts in reversed(tables):
        k = 0
        while rest >= counts[choices[k]]:
            rest = rest - counts[choices[k]]
            k = k + 1
        walk.append(choices[k])
        choices = web.out_of(choices[k])
    return tuple(walk)


def windows(walk, span):
    """The parts of span consecutive members, from left to right."""
    if not is_sequence(walk):
        raise BadWalk(None)
    for i, member in enumerate(walk):
        if not is_whole(member):
            raise BadWalk(i)
    check_span(span)
    return [tuple(walk[i:i + span]) for i in range(len(walk) - span + 1)]


def is_hueing(web, span, many, hues):
    """True if the value is a hueing of the web with this many hues."""
    check_web(web)
    check_web_span(web, span)
    check_many(many)
    if not is_sequence(hues) or len(hues) != count_walks(web, span):
        return False
    return first_outside(0, many - 1, hues) is None


def hue_table(web, span, hues):
    """The dict from each walk of span places to its hue."""
    check_web(web)
    check_web_span(web, span)
    check_hues(web, span, MOST_HUES, hues)
    return {walk: hue for walk, hue in zip(list_walks(web, span), hues)}


def hue_counts(web, span, many, hues):
    """The number of walks of each hue."""
    check_web(web)
    check_web_span(web, span)
    check_many(many)
    check_hues(web, span, many, hues)
    return [hues.count(hue) for hue in range(many)]


def hueing_by_number(web, span, many, number):
    """The hueing with this index in the ascending list of all hueings with this many hues."""
    check_web(web)
    check_web_span(web, span)
    check_many(many)
    if not is_whole(number) or number < 0:
        raise BadNumber()
    hues = []
    rest = number
    for _ in range(count_walks(web, span)):
        hues.append(rest % many)
        rest = rest // many
    # The hues are the digits of the number; what is left over has no walk to stand at.
    if rest > 0:
        raise BadNumber()
    return hues[::-1]


def check_span(span):
    """Refuse what is not a span."""
    check_number(LEAST_SPAN, MOST_SPAN, span)


def check_web_span(web, span):
    """Refuse what is not a span, and a web with too many walks of up to span places."""
    check_span(span)
    check_walk_limit(web, span)


def check_walk_limit(web, places):
    """Refuse a web that has too many walks of any number of places up to this one."""
    counts = [1] * len(web)
    for _ in range(places - 1):
        counts = _count_longer(web, counts)
        if sum(counts) > MOST_WALKS:
            raise TooMany(MOST_WALKS)


def check_walk(web, least, most, walk):
    """Refuse what is not a walk of the web with least to most places."""
    if not is_sequence(walk) or not is_between(least, most, len(walk)):
        raise BadWalk(None)
    wrong = _first_misstep(web, walk)
    if wrong is not None:
        raise BadWalk(wrong)


def check_many(many):
    """Refuse what is not a number of hues."""
    check_number(1, MOST_HUES, many)


def check_hues(web, span, many, hues):
    """Refuse what is not a hueing of the web with this many hues."""
    check_hues_of(count_walks(web, span), many, hues)


def check_hues_of(many_walks, many, hues):
    """Refuse what is not a sequence with one of so many hues for each of these many walks."""
    if not is_sequence(hues) or len(hues) != many_walks:
        raise BadHueing(None)
    wrong = first_outside(0, many - 1, hues)
    if wrong is not None:
        raise BadHueing(wrong)


def count_walks(web, places):
    """The number of walks with this many places, of arguments that are right."""
    counts = [1] * len(web)
    for _ in range(places - 1):
        counts = _count_longer(web, counts)
    return sum(counts)


def list_walks(web, places):
    """The ascending list of all walks with this many places, of arguments that are right."""
    after = [web.out_of(place) for place in range(len(web))]
    walks = [(place,) for place in range(len(web))]
    for _ in range(places - 1):
        walks = [walk + (place,) for walk in walks for place in after[walk[-1]]]
    return walks


def _count_longer(web, counts):
    """How many walks begin at each place, if counts tells it for walks of one place fewer."""
    longer = [0] * len(web)
    for u, v in web:
        longer[u] = longer[u] + counts[v]
    return longer


def _first_misstep(web, walk):
    """The index of the first member that is no place or that no arrow leads to; None if there is none."""
    for i, place in enumerate(walk):
        if not is_between(0, len(web) - 1, place):
            return i
        if i >= 1 and (walk[i - 1], place) not in web:
            return i
    return None
