"""Points, sides, meetings (section 4)."""

from ringsorways.errors import BadPoint, BadRing, BadShare, OnLine, Same
from ringsorways.geometry import closed_stretches, is_round, lies_on, meeting, point_between, turn
from ringsorways.values import is_point, is_share


def side(a, b, c):
    """At which side of the line from a to b the point c lies: 1 left, -1 right, 0 on it."""
    check_points((a, b, c))
    return turn(a, b, c)


def meet(a, b, c, d):
    """How the stretch from a to b and that from c to d meet."""
    check_points((a, b, c, d))
    for ends in ((a, b), (c, d)):
        if ends[0] == ends[1]:
            raise Same(ends)
    return meeting(a, b, c, d)


def between(a, b, share):
    """The point at this share of the path from a to b."""
    check_points((a, b))
    if not is_share(share):
        raise BadShare(share)
    return point_between(a, b, share)


def inside(points, spot):
    """Whether a half line from the spot crosses the closed line through these points an odd number of times."""
    if not is_closed_line(points):
        raise BadRing(points)
    check_points((spot,))
    if any([lies_on(a, b, spot) for a, b in closed_stretches(points)]):
        raise OnLine(spot)
    return is_round(points, spot)


def check_points(values):
    """Raise BadPoint with the first of these values that is none."""
    for value in values:
        if not is_point(value):
            raise BadPoint(value)


def is_closed_line(value):
    """Whether value is a tuple of three points or more, no two neighbours of which are the same."""
    if not isinstance(value, tuple) or len(value) < 3 or not all([is_point(point) for point in value]):
        return False
    return all([a != b for a, b in closed_stretches(value)])
