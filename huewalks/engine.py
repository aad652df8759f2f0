"""An engine that keeps a web and hues of its walks, some of them bare, without roads that are too long."""

from huewalks.checks import check_bounds, check_number
from huewalks.errors import BadWeb, TooLong, TooMany, Unhued
from huewalks.huelay import laying_of
from huewalks.roads import least_road_along, links_of_hue, list_links, most_steps
from huewalks.walks import check_span, check_walk, check_walk_limit, count_walks, list_walks
from huewalks.webs import Web, check_place

MOST_ENGINE_PLACES = 100
MOST_DEEDS = 300


class Engine:
    """A web and the hues of its walks of span places, changed deed by deed."""

    def __init__(self, span, bounds, places=0):
        check_span(span)
        check_bounds(bounds)
        check_number(0, MOST_ENGINE_PLACES, places)
        self._span = span
        self._bounds = tuple(bounds)
        self._web = Web(places)
        # All walks, ascending, each with its hue, or with None if it is bare.
        self._hues = {}
        self._deeds = []

    @property
    def span(self):
        """The number of places of the walks that have hues."""
        return self._span

    @property
    def bounds(self):
        """The bounds of the hues."""
        return self._bounds

    @property
    def web(self):
        """The web as it is now."""
        return self._web

    @property
    def deeds(self):
        """The number of remembered deeds."""
        return len(self._deeds)

    def add_place(self):
        """Adds a place, and tells its number."""
        number = len(self._web)
        if number == MOST_ENGINE_PLACES:
            raise TooMany(MOST_ENGINE_PLACES)
        self._go_on(Web(number + 1, self._web.arrows), self._hues)
        return number

    def add_arrow(self, u, v):
        """Adds the arrow, and tells the new walks."""
        self._check_arrow(u, v, False)
        web = self._web.with_arrow(u, v)
        check_walk_limit(web, self._span)
        hues = {walk: self._hues.get(walk) for walk in list_walks(web, self._span)}
        fresh = [walk for walk in hues if walk not in self._hues]
        self._go_on(web, hues)
        return fresh

    def drop_arrow(self, u, v):
        """Removes the arrow, and tells the walks that are gone."""
        self._check_arrow(u, v, True)
        web = self._web.without_arrow(u, v)
        hues = {walk: self._hues[walk] for walk in list_walks(web, self._span)}
        gone = [walk for walk in self._hues if walk not in hues]
        self._go_on(web, hues)
        return gone

    def paint(self, walk, hue):
        """Gives the walk the hue."""
        self._check_walk(walk)
        self._check_hue(hue)
        if self._hues[tuple(walk)] != hue:
            hues = self._painted(walk, hue)
            road = self._long_road(hues, hue)
            if road is not None:
                raise TooLong(hue, road)
            self._go_on(self._web, hues)

    def clean(self, walk):
        """Makes the walk bare, and tells the hue that it had."""
        self._check_walk(walk)
        hue = self._hues[tuple(walk)]
        if hue is not None:
            self._go_on(self._web, self._painted(walk, None))
        return hue

    def fill(self):
        """Gives each bare walk in turn the least hue that it can have, and tells how many stay bare."""
        links = list_links(self._web, self._span)
        many_ends = count_walks(self._web, self._span - 1)
        worn = list(self._hues.values())
        tangles = [
            Tangle(many_ends, links_of_hue(links, worn, hue), bound) for hue, bound in enumerate(self._bounds)
        ]
        filled = []
        for link, hue in zip(links, worn):
            # A link that is taken counts for the later ones, so they come one after the other.
            filled.append(_least_taker(tangles, link) if hue is None else hue)
        if filled != worn:
            self._go_on(self._web, {walk: hue for walk, hue in zip(self._hues, filled)})
        return filled.count(None)

    def undo(self):
        """Takes back the last remembered deed; False if there is none."""
        if len(self._deeds) == 0:
            return False
        self._web, self._hues = self._deeds.pop()
        return True

    def hue_of(self, walk):
        """The hue of the walk, None if it is bare."""
        self._check_walk(walk)
        return self._hues[tuple(walk)]

    def choices(self, walk):
        """The hues that the walk may have, ascending."""
        self._check_walk(walk)
        many = len(self._bounds)
        return [hue for hue in range(many) if self._long_road(self._painted(walk, hue), hue) is None]

    def bare(self):
        """The bare walks, ascending."""
        return [walk for walk, hue in self._hues.items() if hue is None]

    def deepest(self, hue):
        """The most steps of a road of the hue."""
        self._check_hue(hue)
        links = self._links(self._hues, hue)
        return max(most_steps(count_walks(self._web, self._span - 1), links, self._bounds[hue]), default=0)

    def hues(self):
        """The hueing, if no walk is bare."""
        bare = self.bare()
        if len(bare) > 0:
            raise Unhued(bare[0])
        return list(self._hues.values())

    def laying(self):
        """The laying of the web on the tower that the hueing gives, if no walk is bare."""
        return laying_of(self._web, self._span, self._bounds, self.hues())

    def _go_on(self, web, hues):
        """Remember the web and the hues as a deed, and go on with these ones; none of them is changed itself."""
        if len(self._deeds) == MOST_DEEDS:
            raise TooMany(MOST_DEEDS)
        self._deeds.append((self._web, self._hues))
        self._web = web
        self._hues = hues

    def _check_arrow(self, u, v, known):
        """Refuse what are not two places, and an arrow that is there or is not, other than known tells."""
        check_place(self._web, u)
        check_place(self._web, v)
        if ((u, v) in self._web) != known:
            raise BadWeb(None)

    def _check_walk(self, walk):
        """Refuse what is not a walk that has a hue or is bare."""
        check_walk(self._web, self._span, self._span, walk)

    def _check_hue(self, hue):
        """Refuse what is not a hue."""
        check_number(0, len(self._bounds) - 1, hue)

    def _painted(self, walk, hue):
        """All walks with their hues, but this walk with this hue."""
        painted = tuple(walk)
        return {told: hue if told == painted else worn for told, worn in self._hues.items()}

    def _links(self, hues, hue):
        """The links of the walks that have the hue among these hues."""
        return links_of_hue(list_links(self._web, self._span), list(hues.values()), hue)

    def _long_road(self, hues, hue):
        """The least road of the hue among these hues with as many steps as its bound; None if there is none."""
        return least_road_along(list_walks(self._web, self._span - 1), self._links(hues, hue), self._bounds[hue])


class Tangle:
    """The links of one hue, and for each end the most steps of a road that ends there.

    To find these steps anew for each of many walks to be painted would take long.
    """

    def __init__(self, many_ends, links, bound):
        self._bound = bound
        self._most = most_steps(many_ends, links, bound)
        self._after = [[] for _ in range(many_ends)]
        for u, v in links:
            self._after[u].append(v)

    def takes(self, u, v):
        """True if the link is added; False if a road with as many steps as the bound would be there."""
        grown = self._grown(u, v)
        if grown is None:
            return False
        for end, steps in grown.items():
            self._most[end] = steps
        self._after[u].append(v)
        return True

    def _grown(self, u, v):
        """The ends at which longer roads end once the link is added, with the steps; None if a road is too long."""
        grown = {}
        ends = [v]
        steps = self._most[u] + 1
        while len(ends) > 0:
            ends = [end for end in ends if self._most[end] < steps]
            # A ring leads back to where the link begins, and each end on the way gets a longer road.
            if u in ends or steps >= self._bound:
                return None
            for end in ends:
                grown[end] = steps
            ends = sorted(set([after for end in ends for after in self._after[end]]))
            steps = steps + 1
        return grown


def _least_taker(tangles, link):
    """The least hue whose tangle takes the link, which is then added to it; None if none takes it."""
    for hue, tangle in enumerate(tangles):
        if tangle.takes(link[0], link[1]):
            return hue
    return None
