"""Webs: places joined by arrows, and ways to make them."""

from huewalks.checks import check_number, is_between, is_sequence
from huewalks.errors import BadThings, BadWeb, TooMany

MOST_PLACES = 2000
MOST_ARROWS = 2000


class Web:
    """Places 0, 1, .. and a set of arrows between them; it never changes."""

    def __init__(self, places, arrows=()):
        check_number(0, MOST_PLACES, places)
        if not is_sequence(arrows):
            raise BadWeb(None)
        known = {}
        for i, arrow in enumerate(arrows):
            if not _is_place_pair(places, arrow):
                raise BadWeb(i)
            known[(arrow[0], arrow[1])] = True
        if len(known) > MOST_ARROWS:
            raise TooMany(MOST_ARROWS)
        self._known = known
        self._arrows = sorted(known)
        self._outs = [[] for _ in range(places)]
        self._ins = [[] for _ in range(places)]
        for u, v in self._arrows:
            self._outs[u].append(v)
            self._ins[v].append(u)

    @property
    def places(self):
        """The number of places."""
        return len(self._outs)

    @property
    def arrows(self):
        """All arrows in ascending order."""
        return list(self._arrows)

    def __len__(self):
        return len(self._outs)

    def __iter__(self):
        return iter(self._arrows)

    def __contains__(self, arrow):
        return arrow in self._known

    def __eq__(self, other):
        # The lists of _outs tell both the number of places and the arrows.
        return isinstance(other, Web) and self._outs == other._outs

    def __ne__(self, other):
        return not self == other

    def out_of(self, place):
        """The places that the arrows out of this place go to, ascending."""
        check_place(self, place)
        return list(self._outs[place])

    def into(self, place):
        """The places that the arrows into this place come from, ascending."""
        check_place(self, place)
        return list(self._ins[place])

    def turned(self):
        """The web with each arrow the other way round."""
        return Web(len(self._outs), [(v, u) for u, v in self._arrows])

    def with_arrow(self, u, v):
        """The web with this arrow too."""
        check_place(self, u)
        check_place(self, v)
        return Web(len(self._outs), self._arrows + [(u, v)])

    def without_arrow(self, u, v):
        """The web without this arrow."""
        check_place(self, u)
        check_place(self, v)
        return Web(len(self._outs), [arrow for arrow in self._arrows if arrow != (u, v)])


def check_web(web):
    """Refuse what is not a web."""
    if not isinstance(web, Web):
        raise BadWeb(None)


def check_place(web, place):
    """Refuse what is not a place of the web."""
    check_number(0, len(web) - 1, place)


def row_web(places):
    """The web with an arrow from each place to each greater one."""
    check_number(0, MOST_PLACES, places)
    if places * (places - 1) // 2 > MOST_ARROWS:
        raise TooMany(MOST_ARROWS)
    return Web(places, [(i, j) for j in range(places) for i in range(j)])


def path_web(places):
    """The web with an arrow from each place to the next."""
    check_number(0, MOST_PLACES, places)
    return Web(places, [(i, i + 1) for i in range(places - 1)])


def ring_web(places):
    """The path with an arrow from the last place to the first."""
    check_number(0, MOST_PLACES, places)
    return Web(places, [(i, (i + 1) % places) for i in range(places)])


def two_way_web(places, ties):
    """The web with arrows both ways for each tie."""
    check_number(0, MOST_PLACES, places)
    if not is_sequence(ties):
        raise BadWeb(None)
    arrows = []
    for i, tie in enumerate(ties):
        if not _is_place_pair(places, tie) or tie[0] == tie[1]:
            raise BadWeb(i)
        arrows.append((tie[0], tie[1]))
        arrows.append((tie[1], tie[0]))
    return Web(places, arrows)


def beside_web(first, second):
    """The web of both webs, the places of the second one numbered behind those of the first."""
    check_web(first)
    check_web(second)
    shift = len(first)
    if shift + len(second) > MOST_PLACES:
        raise TooMany(MOST_PLACES)
    return Web(shift + len(second), list(first) + [(u + shift, v + shift) for u, v in second])


def part_web(web, places):
    """The web of some places, numbered in the told order, with all arrows between them."""
    check_web(web)
    if not is_sequence(places):
        raise BadThings(None)
    numbers = {}
    for i, place in enumerate(places):
        if not is_between(0, len(web) - 1, place) or place in numbers:
            raise BadThings(i)
        numbers[place] = i
    return Web(len(numbers), [(numbers[u], numbers[v]) for u, v in web if u in numbers and v in numbers])


def _is_place_pair(places, value):
    """True for a sequence of exactly two of this many places."""
    if not is_sequence(value) or len(value) != 2:
        return False
    return is_between(0, places - 1, value[0]) and is_between(0, places - 1, value[1])
