"""Dyeings of line webs, and the middle lots by which they and the dyeings of webs give each other."""

from math import comb

from huewalks.checks import check_number, check_things_below, is_between, is_sequence
from huewalks.errors import BadThings
from huewalks.orders import bits_of, things_in
from huewalks.twoway import check_dyes, check_two_way
from huewalks.webs import check_web

MOST_LINE_DYES = 9


def middle_number(many):
    """The number of middle lots."""
    _check_line_dyes(many)
    return comb(many, many // 2)


def middle_lots(many):
    """The ascending list of all sets of half of the integers below many, as ascending tuples."""
    _check_line_dyes(many)
    lots = [()]
    for _ in range(many // 2):
        lots = [lot + (x,) for lot in lots for x in range(max(lot, default=-1) + 1, many)]
    return lots


def middle_of(many, lot):
    """The middle of the set, found by brackets."""
    _check_line_dyes(many)
    _check_lot(many, lot)
    opened = []
    matched = []
    closed = []
    for x in range(many):
        if x not in lot:
            opened.append(x)
        elif len(opened) > 0:
            opened.pop()
            matched.append(x)
        else:
            closed.append(x)
    unmatched = closed + opened
    return tuple(sorted(matched + unmatched[:many // 2 - len(matched)]))


def line_dyes(web, many, dyes):
    """The dyeing of the line web that the dyeing of the web gives."""
    check_web(web)
    check_dyes(web, middle_number(many), dyes)
    told = [bits_of(lot) for lot in middle_lots(many)]
    return [things_in(told[dyes[u]] & ~told[dyes[v]])[0] for u, v in web]


def out_lots(web, many, dyes):
    """For each place the dyes of the arrows out of it, of a dyeing of the line web."""
    check_web(web)
    _check_line_dyes(many)
    check_things_below(len(web.arrows), many, dyes)
    # The line web is not made, because it may be far too great: it joins what goes into a place to what goes out.
    outs = [0] * len(web)
    ins = [0] * len(web)
    for (u, v), dye in zip(web, dyes):
        outs[u] = outs[u] | (1 << dye)
        ins[v] = ins[v] | (1 << dye)
    if any([out_bits & in_bits != 0 for out_bits, in_bits in zip(outs, ins)]):
        raise BadThings(None)
    return [tuple(things_in(bits)) for bits in outs]


def web_dyes(web, many, dyes):
    """The dyeing of the two-way web that the dyeing of its line web gives."""
    check_two_way(web)
    lots = out_lots(web, many, dyes)
    numbers = {lot: i for i, lot in enumerate(middle_lots(many))}
    return [numbers[middle_of(many, lot)] for lot in lots]


def _check_line_dyes(many):
    """Refuse what is not a number of dyes of a line web."""
    check_number(0, MOST_LINE_DYES, many)


def _check_lot(many, lot):
    """Refuse what is not an ascending sequence of integers below many."""
    if not is_sequence(lot):
        raise BadThings(None)
    least = 0
    for i, x in enumerate(lot):
        if not is_between(least, many - 1, x):
            raise BadThings(i)
        least = x + 1
