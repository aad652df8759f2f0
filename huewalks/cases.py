"""Hue refusals, which show by cases that no hueing keeps the bounds, and the size of refusals."""

from huewalks.checks import check_bounds, is_between, is_sequence
from huewalks.errors import BadPaper
from huewalks.roads import find_hueing, least_road_along, links_of_hue, list_links
from huewalks.trees import MOST_HUE_TREES, is_triple, measure
from huewalks.walks import check_web_span, is_walk, list_walks, windows
from huewalks.webs import check_web


def hue_refusal(web, span, bounds):
    """None if there is a hueing that keeps the bounds, otherwise a hue refusal."""
    if find_hueing(web, span, bounds) is not None:
        return None
    return _refusal_from(list_walks(web, span), list_walks(web, span - 1), list_links(web, span), bounds, [])


def is_hue_refusal(web, span, bounds, tree):
    """True if the value is a hue refusal for the web, the span and the bounds."""
    check_web(web)
    check_web_span(web, span)
    check_bounds(bounds)
    return _refuses(web, span, bounds, {}, tree)


def tree_size(tree):
    """The number of all trees in the tree, itself counted too."""
    return _measured(tree)[0]


def tree_depth(tree):
    """The greatest number of trees of the form split or hue on a path."""
    return _measured(tree)[1]


def _measured(tree):
    """The size and the depth of a well-formed tree; every other value is refused."""
    found = measure(tree)
    if found is None:
        raise BadPaper(None)
    return found


def _refusal_from(walks, ends, links, bounds, hues):
    """A tree for the partial hueing in which the first walks have these hues, without a road that is too long.

    The caller knows that no hueing keeps the bounds, so at the last walk each hue makes such a road.
    """
    trees = []
    for hue, bound in enumerate(bounds):
        longer = hues + [hue]
        road = least_road_along(ends, links_of_hue(links, longer, hue), bound)
        if road is None:
            trees.append(_refusal_from(walks, ends, links, bounds, longer))
        else:
            trees.append(("road", hue, road))
    return ("hue", walks[len(hues)], tuple(trees))


def _refuses(web, span, bounds, hues, tree):
    """True if the tree is right for the partial hueing, a dict from walks to hues."""
    if not is_triple(tree):
        return False
    word, first, second = tree
    if word == "road":
        return _is_long_road(web, span, bounds, hues, first, second)
    return word == "hue" and _is_hue_split(web, span, bounds, hues, first, second)


def _is_long_road(web, span, bounds, hues, hue, road):
    """True if the value is a road of the hue, in the partial hueing, with as many steps as the bound."""
    if not is_between(0, len(bounds) - 1, hue) or not is_walk(web, road):
        return False
    if len(road) != span - 1 + bounds[hue]:
        return False
    return all([hues.get(window) == hue for window in windows(road, span)])


def _is_hue_split(web, span, bounds, hues, walk, trees):
    """True if the walk has no hue yet and the trees are right, one for each hue that it may get."""
    if not is_walk(web, walk) or len(walk) != span or len(hues) == MOST_HUE_TREES:
        return False
    if tuple(walk) in hues or not is_sequence(trees) or len(trees) != len(bounds):
        return False
    return all([_refuses(web, span, bounds, _with_hue(hues, walk, hue), tree) for hue, tree in enumerate(trees)])


def _with_hue(hues, walk, hue):
    """The partial hueing in which the walk has the hue too."""
    longer = {told: hues[told] for told in hues}
    longer[tuple(walk)] = hue
    return longer
