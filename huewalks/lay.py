"""Layings of a web on an order or on another web: judged, found, and refused by cases."""

from huewalks.checks import check_things_below, first_outside, is_between, is_filled, is_sequence, is_whole
from huewalks.errors import BadLaying, BadThings, TooMany
from huewalks.linewebs import joins
from huewalks.orders import check_order, check_things
from huewalks.trees import MOST_SPLITS, is_triple
from huewalks.walks import check_walk_limit, check_web_span, hue_table, list_walks
from huewalks.webs import check_web

MOST_FREE_PLACES = 13
MOST_LAYINGS = 10000


def is_laying(web, order, laying):
    """True if the value is a laying of the web on the order."""
    check_web(web)
    check_order(order)
    return is_filled(len(web), 0, len(order) - 1, laying) and _first_unkept(web, order, laying) is None


def is_web_laying(web, onto, laying):
    """True if the value is a web laying of the web on the web onto."""
    check_web(web)
    check_web(onto)
    return is_filled(len(web), 0, len(onto) - 1, laying) and _keeps_all(web, onto, laying)


def bad_arrow(web, order, things):
    """The least arrow that these things of the places do not keep; None if all are kept."""
    check_web(web)
    check_order(order)
    check_things_below(len(web), len(order), things)
    return _first_unkept(web, order, things)


def laying_after(first, second):
    """The list of what the second sequence has at the indices that the first one has."""
    _check_indices(first)
    _check_indices(second)
    wrong = first_outside(0, len(second) - 1, first)
    if wrong is not None:
        raise BadThings(wrong)
    return [second[x] for x in first]


def pull_hues(web, onto, span, laying, hues):
    """The hueing that gives each walk the hue of the walk that the web laying sends it to."""
    check_web(web)
    check_web(onto)
    check_web_span(web, span)
    check_walk_limit(onto, span)
    check_images(len(web), len(onto), laying)
    if not _keeps_all(web, onto, laying):
        raise BadLaying(None)
    table = hue_table(onto, span, hues)
    return [table[tuple([laying[place] for place in walk])] for walk in list_walks(web, span)]


def find_laying(web, order, *, start=()):
    """The least laying that begins with the members of start; None if there is none."""
    check_web(web)
    check_order(order)
    if not is_sequence(start) or len(start) > len(web):
        raise BadThings(None)
    check_things(order, start)
    _check_search(len(web) - len(start), len(order))
    begun = len(start)
    if not all([joins(order, start[u], start[v]) for u, v in web if u < begun and v < begun]):
        return None
    return _least_laying(web, order, list(start))


def refusal(web, order):
    """None if there is a laying of the web on the order, otherwise a refusal."""
    check_web(web)
    check_order(order)
    _check_search(len(web), len(order))
    return _refusal_from(web, order, [])


def is_refusal(web, order, tree):
    """True if the value is a refusal of the web on the order."""
    check_web(web)
    check_order(order)
    return _refuses(web, order, {}, tree)


def check_laying(web, order, laying):
    """Refuse what is not a laying of the web on the order."""
    check_images(len(web), len(order), laying)
    if _first_unkept(web, order, laying) is not None:
        raise BadLaying(None)


def check_images(many, limit, laying):
    """Refuse what is not a sequence of exactly this many integers from 0 to the limit minus 1."""
    if not is_sequence(laying) or len(laying) != many:
        raise BadLaying(None)
    wrong = first_outside(0, limit - 1, laying)
    if wrong is not None:
        raise BadLaying(wrong)


def _check_indices(values):
    """Refuse what is not a sequence of integers from 0."""
    if not is_sequence(values):
        raise BadThings(None)
    for i, value in enumerate(values):
        if not is_whole(value) or value < 0:
            raise BadThings(i)


def _check_search(free, many):
    """Refuse a search among too many ways to give so many free places one of many things each."""
    if free > MOST_FREE_PLACES:
        raise TooMany(MOST_FREE_PLACES)
    ways = 1
    for _ in range(free):
        ways = ways * many
    if ways > MOST_LAYINGS:
        raise TooMany(MOST_LAYINGS)


def _first_unkept(web, order, things):
    """The least arrow that the things of the places do not keep; None if all are kept."""
    for u, v in web:
        if not joins(order, things[u], things[v]):
            return (u, v)
    return None


def _keeps_all(web, onto, laying):
    """True if each arrow of the web goes to an arrow of the web onto."""
    return all([(laying[u], laying[v]) in onto for u, v in web])


def _clash_of_last(web, order, things):
    """An arrow, not kept, between the last of the places that have things and one of them; None if there is none."""
    last = len(things) - 1
    arrows = [(last, v) for v in web.out_of(last) if v <= last] + [(u, last) for u in web.into(last) if u < last]
    for u, v in arrows:
        if not joins(order, things[u], things[v]):
            return (u, v)
    return None


def _least_laying(web, order, things):
    """The least laying that begins with these things, which keep the arrows among them; None if there is none."""
    if len(things) == len(web):
        return things
    for thing in range(len(order)):
        longer = things + [thing]
        if _clash_of_last(web, order, longer) is None:
            found = _least_laying(web, order, longer)
            if found is not None:
                return found
    return None


def _refusal_from(web, order, things):
    """A tree for the partial laying of these things, which keep the arrows among them; None if a laying has them."""
    if len(things) == len(web):
        return None
    trees = []
    for thing in range(len(order)):
        longer = things + [thing]
        clash = _clash_of_last(web, order, longer)
        tree = _refusal_from(web, order, longer) if clash is None else ("clash", clash[0], clash[1])
        if tree is None:
            return None
        trees.append(tree)
    return ("split", len(things), tuple(trees))


def _refuses(web, order, things, tree):
    """True if the tree is right for the partial laying, a dict from places to things."""
    if not is_triple(tree):
        return False
    word, first, second = tree
    if word == "clash":
        return _is_clash(web, order, things, first, second)
    return word == "split" and _is_split(web, order, things, first, second)


def _is_clash(web, order, things, u, v):
    """True if (u, v) is an arrow of the web that the partial laying does not keep."""
    if not is_whole(u) or not is_whole(v) or (u, v) not in web:
        return False
    return u in things and v in things and not joins(order, things[u], things[v])


def _is_split(web, order, things, place, trees):
    """True if the place has no thing yet and the trees are right, one for each thing that it may get."""
    if not is_between(0, len(web) - 1, place) or place in things or len(things) == MOST_SPLITS:
        return False
    if not is_sequence(trees) or len(trees) != len(order):
        return False
    return all([_refuses(web, order, {**things, place: thing}, tree) for thing, tree in enumerate(trees)])
