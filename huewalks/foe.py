"""Rows whose places come one by one: a foe that tells the hues of their walks, and a watch that is told them."""

from huewalks.checks import check_bounds, check_number
from huewalks.closedlots import tower
from huewalks.errors import Ended
from huewalks.roads import MOST_STEPS, long_road, longest
from huewalks.rowcase import row_hueing
from huewalks.walks import check_hues_of, check_span, check_walk, check_walk_limit, list_walks, walk_rank
from huewalks.webs import row_web


class Foe:
    """Tells the hues of the new walks of each place that comes, without a road that is too long."""

    def __init__(self, span, bounds):
        self._most = len(tower(span, bounds))
        self._span = span
        self._bounds = tuple(bounds)
        self._web = row_web(0)
        self._hues = []

    def __len__(self):
        return len(self._web)

    @property
    def room(self):
        """The row limit minus the number of places that have come."""
        return self._most - len(self._web)

    def come(self):
        """The hues of the new walks of the next place."""
        # A longer row leaves the told hues of the walks that were there as they are.
        hues = row_hueing(len(self._web) + 1, self._span, self._bounds)
        self._web = row_web(len(self._web) + 1)
        self._hues = hues
        last = len(self._web) - 1
        return [hue for walk, hue in zip(list_walks(self._web, self._span), hues) if walk[-1] == last]

    def hue_of(self, walk):
        """The hue of the walk."""
        check_walk(self._web, self._span, self._span, walk)
        return self._hues[walk_rank(self._web, walk)]

    def hues(self):
        """The hueing of the row."""
        return list(self._hues)


class Watch:
    """Is told the hues of the new walks of each place that comes, and ends with the first road that is too long."""

    def __init__(self, span, bounds):
        check_span(span)
        check_bounds(bounds)
        self._span = span
        self._bounds = tuple(bounds)
        self._web = row_web(0)
        self._table = {}
        self._ended = False

    def __len__(self):
        return len(self._web)

    @property
    def ended(self):
        """True if there is a road that is too long."""
        return self._ended

    def come(self, hues):
        """The road that is too long once the new walks of the next place have these hues, with its hue, or None."""
        if self._ended:
            raise Ended()
        longer = row_web(len(self._web) + 1)
        check_walk_limit(longer, self._span)
        fresh = [walk for walk in list_walks(longer, self._span) if walk[-1] == len(self._web)]
        check_hues_of(len(fresh), len(self._bounds), hues)
        for walk, hue in zip(fresh, hues):
            self._table[walk] = hue
        self._web = longer
        found = long_road(longer, self._span, self._bounds, self.hues())
        self._ended = found is not None
        return found

    def hues(self):
        """The hueing of the row."""
        return [self._table[walk] for walk in list_walks(self._web, self._span)]

    def deepest(self, hue):
        """The most steps of a road of the hue."""
        check_number(0, len(self._bounds) - 1, hue)
        return longest(self._web, self._span, self.hues(), hue, MOST_STEPS)
