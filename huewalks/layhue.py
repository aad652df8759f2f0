"""Layings lifted to the order of closed lots, and lowered to the line web."""

from huewalks.closedlots import lots, up_times
from huewalks.lay import check_laying
from huewalks.linewebs import line_web_times
from huewalks.orders import bits_of, check_order, closure, things_in
from huewalks.webs import check_web


def lift_laying(web, order, laying):
    """The laying of the web on the closed lots that a laying of its line web on the order gives."""
    return lift_times(web, order, 1, laying)


def lower_laying(web, order, laying):
    """The laying of the line web on the order that a laying of the web on the closed lots gives."""
    return lower_times(web, order, 1, laying)


def lift_times(web, order, times, laying):
    """The laying of the line web taken this many times, lifted as often."""
    lined, _ = _check_times(web, order, times)
    check_laying(lined, order, laying)
    lifted = list(laying)
    for done in range(times):
        lifted = _lifted(line_web_times(web, times - 1 - done), up_times(order, done), lifted)
    return lifted


def lower_times(web, order, times, laying):
    """The laying of the web on the order of closed lots taken this many times, lowered as often."""
    _, raised = _check_times(web, order, times)
    check_laying(web, raised, laying)
    lowered = list(laying)
    for done in range(times):
        lowered = _lowered(line_web_times(web, done), up_times(order, times - 1 - done), lowered)
    return lowered


def _check_times(web, order, times):
    """The line web and the order of closed lots, both taken so many times; wrong arguments are refused."""
    check_web(web)
    check_order(order)
    lined = line_web_times(web, times)
    return (lined, up_times(order, times))


def _lifted(web, order, laying):
    """For each place the number of the closure of the things of the arrows out of it."""
    numbers = {lot: i for i, lot in enumerate(lots(order))}
    things = [[] for _ in range(len(web))]
    for i, (u, _) in enumerate(web):
        things[u].append(laying[i])
    return [numbers[closure(order, told)] for told in things]


def _lowered(web, order, laying):
    """For each arrow the least thing that is in the lot where it begins and not in the lot where it ends."""
    told = [bits_of(lot) for lot in lots(order)]
    return [things_in(told[laying[u]] & ~told[laying[v]])[0] for u, v in web]
