"""Line webs, whose places stand for the arrows of a web, and the webs of orders."""

from huewalks.checks import check_number, is_between, is_sequence
from huewalks.errors import BadWalk, BadWeb
from huewalks.orders import MOST_THINGS, Order, check_order
from huewalks.walks import MOST_WALK_PLACES, check_walk, check_walk_limit, list_walks, walk_of_rank
from huewalks.webs import Web, check_place, check_web

MOST_LINE_TIMES = 4


def line_web(web):
    """The web with a place for each arrow, and an arrow wherever one arrow ends where another begins."""
    check_web(web)
    check_walk_limit(web, 3)
    numbers = _arrow_numbers(web)
    return Web(len(numbers), [(numbers[(u, v)], numbers[(v, w)]) for u, v, w in list_walks(web, 3)])


def line_web_times(web, times):
    """The line web, taken this many times."""
    check_web(web)
    check_number(0, MOST_LINE_TIMES, times)
    lined = web
    for _ in range(times):
        lined = line_web(lined)
    return lined


def line_walk(web, walk):
    """The walk of the line web that goes along the arrows of the walk."""
    check_web(web)
    check_walk(web, 2, MOST_WALK_PLACES, walk)
    numbers = _arrow_numbers(web)
    return tuple([numbers[(walk[i], walk[i + 1])] for i in range(len(walk) - 1)])


def web_walk(web, numbers):
    """The walk of the web whose arrows have these indices."""
    check_web(web)
    if not is_sequence(numbers) or not is_between(1, MOST_WALK_PLACES - 1, len(numbers)):
        raise BadWalk(None)
    arrows = web.arrows
    walk = []
    for i, number in enumerate(numbers):
        if not is_between(0, len(arrows) - 1, number):
            raise BadWalk(i)
        start, end = arrows[number]
        if i == 0:
            walk.append(start)
        if walk[-1] != start:
            raise BadWalk(i)
        walk.append(end)
    return tuple(walk)


def line_meaning(web, times, place):
    """The walk of the web that the place of the line web taken this many times stands for."""
    check_place(line_web_times(web, times), place)
    return walk_of_rank(web, times + 1, place)


def joins(order, a, b):
    """True if the arrow rule gives an arrow from a to b."""
    check_order(order)
    return not order.at_or_below(b, a)


def order_web(order):
    """The web of the order: an arrow from a to b if b is not at or below a."""
    check_order(order)
    return Web(len(order), _rule_arrows(order))


def is_order_web(web):
    """True if the value is a web that is equal to the web of some order."""
    if not isinstance(web, Web) or len(web) > MOST_THINGS:
        return False
    return web.arrows == _rule_arrows(_read_order(web))


def order_of_web(web):
    """The order whose web is equal to this one."""
    if not is_order_web(web):
        raise BadWeb(None)
    return _read_order(web)


def _arrow_numbers(web):
    """The dict from each arrow to its index in the ascending list."""
    return {arrow: i for i, arrow in enumerate(web)}


def _rule_arrows(order):
    """All arrows that the arrow rule gives, ascending."""
    return [(a, b) for a in range(len(order)) for b in range(len(order)) if joins(order, a, b)]


def _read_order(web):
    """The order in which a is at or below a greater b if no arrow leads from b to a, as far as there is one."""
    return Order(len(web), [(a, b) for b in range(len(web)) for a in range(b) if (b, a) not in web])
