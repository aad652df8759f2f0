"""Points of the plane: turns to the left and to the right, cups and caps, and points without great ones."""

from math import comb

from huewalks.checks import check_number, is_rising, is_sequence, is_whole
from huewalks.errors import BadPoints, TooMany
from huewalks.roads import links_of_hue, list_links, long_road, most_steps
from huewalks.walks import MOST_WALKS, count_walks
from huewalks.webs import row_web

MOST_POINTS = 200
MOST_HUED_POINTS = 23
MOST_LONGEST_POINTS = 40
MOST_BEST_POINTS = 70
MOST_ASKED = 200
MOST_BEST_NUMBER = 69
TURN_SPAN = 3
CUP_HUE = 0
CAP_HUE = 1


def turn(p, q, r):
    """1 if the three points turn left, -1 if they turn right, 0 if they are straight."""
    if not _is_point(p) or not _is_point(q) or not _is_point(r):
        raise BadPoints(None)
    return _turn_of(p, q, r)


def point_hues(points):
    """The hueing for span 3 that tells of each three points whether they turn left."""
    _check_points(points)
    _check_few(MOST_HUED_POINTS, MOST_WALKS, points)
    return _hues_of(points)


def is_cup(points, places):
    """True if the value is a sequence of ascending indices of points that make a cup."""
    return _is_bent(points, CUP_HUE, places)


def is_cap(points, places):
    """True if the value is a sequence of ascending indices of points that make a cap."""
    return _is_bent(points, CAP_HUE, places)


def longest_cup(points):
    """The greatest number of points of a cup."""
    return _longest_bent(points, CUP_HUE)


def longest_cap(points):
    """The greatest number of points of a cap."""
    return _longest_bent(points, CAP_HUE)


def cup_or_cap(points, cups, caps):
    """The least cup of cups + 2 points, else the least cap of caps + 2 points, with 0 or 1 before it; None if none."""
    _check_points(points)
    check_number(1, MOST_ASKED, cups)
    check_number(1, MOST_ASKED, caps)
    _check_few(MOST_HUED_POINTS, MOST_WALKS, points)
    # Cups and caps are the roads of the two hues, and have two points more than the roads have steps.
    found = long_road(row_web(len(points)), TURN_SPAN, (cups, caps), _hues_of(points))
    if found is None:
        return None
    hue, road = found
    return (hue, list(road))


def best_points(cups, caps):
    """The best points, which have no cup of cups + 2 points and no cap of caps + 2 points."""
    check_number(0, MOST_BEST_NUMBER, cups)
    check_number(0, MOST_BEST_NUMBER, caps)
    if comb(cups + caps, cups) > MOST_BEST_POINTS:
        raise TooMany(MOST_BEST_POINTS)
    if cups == 0 or caps == 0:
        return [(0, 0)]
    left = best_points(cups - 1, caps)
    right = best_points(cups, caps - 1)
    steep = max(steepest(left), steepest(right))
    lift = steep * (len(left) + len(right)) + max([y for _, y in left]) - min([y for _, y in right]) + 1
    return left + [(x + len(left), y + lift) for x, y in right]


def spread(points):
    """The greatest y minus the least y, 0 for no points."""
    _check_points(points)
    heights = [y for _, y in points]
    return max(heights, default=0) - min(heights, default=0)


def steepest(points):
    """The greatest difference of the y of two consecutive points, 0 for fewer than two points."""
    _check_points(points)
    return max([abs(points[i + 1][1] - points[i][1]) for i in range(len(points) - 1)], default=0)


def _turn_of(p, q, r):
    """The turn of three points that are right."""
    area = (q[0] - p[0]) * (r[1] - p[1]) - (q[1] - p[1]) * (r[0] - p[0])
    if area == 0:
        return 0
    return 1 if area > 0 else -1


def _hue_of_turn(p, q, r):
    """The hue that the point hueing gives to three points."""
    return CUP_HUE if _turn_of(p, q, r) == 1 else CAP_HUE


def _hues_of(points):
    """The point hueing of points that are right."""
    many = len(points)
    triples = [(i, j, k) for i in range(many) for j in range(i + 1, many) for k in range(j + 1, many)]
    return [_hue_of_turn(points[i], points[j], points[k]) for i, j, k in triples]


def _is_bent(points, hue, places):
    """True if the value is a sequence of ascending indices of points that make a cup or a cap, as the hue tells."""
    _check_points(points)
    if not is_rising(len(points), places):
        return False
    bent = [points[place] for place in places]
    return all([_hue_of_turn(bent[i], bent[i + 1], bent[i + 2]) == hue for i in range(len(bent) - 2)])


def _longest_bent(points, hue):
    """The greatest number of points of a cup or a cap, as the hue tells."""
    _check_points(points)
    _check_few(MOST_LONGEST_POINTS, MOST_LONGEST_POINTS, points)
    if len(points) < TURN_SPAN:
        return len(points)
    web = row_web(len(points))
    links = links_of_hue(list_links(web, TURN_SPAN), _hues_of(points), hue)
    return TURN_SPAN - 1 + max(most_steps(count_walks(web, TURN_SPAN - 1), links, len(points)))


def _is_point(value):
    """True for a sequence of exactly two coordinates."""
    return is_sequence(value) and len(value) == 2 and _is_coordinate(value[0]) and _is_coordinate(value[1])


def _is_coordinate(value):
    """True for an integer with an absolute value less than 10 to the power 200."""
    return is_whole(value) and abs(value) < (10 ** 50) ** 4


def _check_points(points):
    """Refuse what are not points."""
    if not is_sequence(points) or len(points) > MOST_POINTS:
        raise BadPoints(None)
    for i, point in enumerate(points):
        if not _is_point(point):
            raise BadPoints(i)
        if i >= 1 and point[0] <= points[i - 1][0]:
            raise BadPoints(i)


def _check_few(most, told, points):
    """Refuse more than most points, with the limit that is told then."""
    if len(points) > most:
        raise TooMany(told)
