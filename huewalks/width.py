"""Chains and loose lots of an order, its width, its levels and its height."""

from huewalks.checks import first_outside, is_sequence
from huewalks.errors import TooMany
from huewalks.orders import check_order

MOST_WIDTH_THINGS = 100


def is_chain(order, things):
    """True if the value is a sequence of unlike things any two of which are comparable."""
    check_order(order)
    return _are_unlike(order, things) and all([order.comparable(a, b) for a, b in _pairs(things)])


def is_loose(order, things):
    """True if the value is a sequence of unlike things no two of which are comparable."""
    check_order(order)
    return _are_unlike(order, things) and not any([order.comparable(a, b) for a, b in _pairs(things)])


def is_chain_cover(order, chains):
    """True if the value is a sequence of chains, none of them empty, that has each thing in exactly one of them."""
    check_order(order)
    if not is_sequence(chains) or not all([_are_unlike(order, chain) and len(chain) > 0 for chain in chains]):
        return False
    # This goes before the longer look at the chains, so that there are not many of them then.
    if sorted([thing for chain in chains for thing in chain]) != list(range(len(order))):
        return False
    return all([is_chain(order, chain) for chain in chains])


def width_of(order):
    """The greatest number of things of a loose lot."""
    return len(chain_cover(order))


def wide_lot(order):
    """An ascending list of as many things as the width, no two of which are comparable."""
    _check_few(order)
    higher = _higher(order)
    before = _link_chains(higher)
    crossed = {}
    todo = [a for a in range(len(order)) if a not in before]
    reached = []
    # By Koenig's theorem: a thing that is reached as a lower end of a pair and not as an upper one.
    while len(todo) > 0:
        a = todo.pop()
        reached.append(a)
        for b in higher[a]:
            if b not in crossed:
                crossed[b] = True
                todo.append(before[b])
    return sorted([a for a in reached if a not in crossed])


def chain_cover(order):
    """A chain cover of as many ascending lists as the width."""
    _check_few(order)
    before = _link_chains(_higher(order))
    after = {a: b for b, a in enumerate(before) if a is not None}
    chains = []
    for first, earlier in enumerate(before):
        if earlier is None:
            chain = [first]
            while chain[-1] in after:
                chain.append(after[chain[-1]])
            chains.append(chain)
    return chains


def levels(order):
    """For each thing the most things of a chain below it."""
    check_order(order)
    found = []
    for thing in range(len(order)):
        found.append(max([found[a] + 1 for a in order.beneath(thing) if a != thing], default=0))
    return found


def height_of(order):
    """The greatest number of things in a chain."""
    return max([level + 1 for level in levels(order)], default=0)


def _check_few(order):
    """Refuse what is not an order, and one with too many things."""
    check_order(order)
    if len(order) > MOST_WIDTH_THINGS:
        raise TooMany(MOST_WIDTH_THINGS)


def _are_unlike(order, things):
    """True for a sequence of unlike things of the order."""
    if not is_sequence(things) or first_outside(0, len(order) - 1, things) is not None:
        return False
    return len(set(things)) == len(things)


def _pairs(things):
    """Each two of the members."""
    return [(a, b) for i, b in enumerate(things) for a in things[:i]]


def _higher(order):
    """For each thing the list of the other things that it is below."""
    return [order.above(thing)[1:] for thing in range(len(order))]


def _link_chains(higher):
    """For each thing the thing directly before it in its chain, or None, so that there are as few chains as can be."""
    before = [None] * len(higher)
    for a in range(len(higher)):
        _gives_next(higher, before, {}, a)
    return before


def _gives_next(higher, before, seen, a):
    """True if a thing could be put behind a; the things before others are changed for it where need be."""
    for b in higher[a]:
        if b not in seen:
            seen[b] = True
            if before[b] is None or _gives_next(higher, before, seen, before[b]):
                before[b] = a
                return True
    return False
