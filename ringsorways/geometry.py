"""Exact sums over points that are known to be points, with integers alone.

A point (x, y, bottom) is worked with as it is: as bottom is above 0, the signs of
sums over all three numbers are the signs of those over the coordinates.
"""

from math import gcd


def point_at(x, y, bottom):
    """The point with the coordinates x / bottom and y / bottom, in least terms; bottom is not 0."""
    common = gcd(x, y, bottom)
    if bottom < 0:
        common = -common
    return (x // common, y // common, bottom // common)


def turn(a, b, c):
    """1 if c lies to the left of the line from a to b, -1 if to the right, 0 if on it."""
    total = (
        a[0] * (b[1] * c[2] - b[2] * c[1])
        - a[1] * (b[0] * c[2] - b[2] * c[0])
        + a[2] * (b[0] * c[1] - b[1] * c[0])
    )
    if total == 0:
        return 0
    return 1 if total > 0 else -1


def is_ahead(a, b):
    """Whether a stands ahead of b: by the first coordinate, then by the second one."""
    apart = a[0] * b[2] - b[0] * a[2]
    if apart != 0:
        return apart < 0
    return a[1] * b[2] < b[1] * a[2]


def first_of(a, b):
    """The one of both points that stands ahead."""
    return b if is_ahead(b, a) else a


def last_of(a, b):
    """The one of both points that stands behind."""
    return a if is_ahead(b, a) else b


def in_sequence(points):
    """The list of these points as they stand."""
    widest = max([point[2] for point in points], default=1)
    # Unlike fractions with bottoms up to widest are at least 1 / scale apart:
    # so no two of them fall together when they are rounded down to such steps.
    scale = widest * widest
    return sorted(points, key=lambda point: (point[0] * scale // point[2], point[1] * scale // point[2]))


def lies_on(a, b, c):
    """Whether c lies on the stretch from a to b."""
    return turn(a, b, c) == 0 and not is_ahead(c, first_of(a, b)) and not is_ahead(last_of(a, b), c)


def meeting(a, b, c, d):
    """How the stretch from a to b and that from c to d meet, in the words of plane.meet."""
    of_c, of_d = turn(a, b, c), turn(a, b, d)
    if of_c == 0 and of_d == 0:
        return meeting_in_line(a, b, c, d)
    of_a, of_b = turn(c, d, a), turn(c, d, b)
    if of_c * of_d > 0 or of_a * of_b > 0:
        return ("none",)
    for end, where in ((c, of_c), (d, of_d), (a, of_a), (b, of_b)):
        if where == 0:
            return ("touch", end)
    return ("cross", common_point(a, b, c, d))


def meeting_in_line(a, b, c, d):
    """How two stretches of one straight line meet."""
    low = last_of(first_of(a, b), first_of(c, d))
    high = first_of(last_of(a, b), last_of(c, d))
    if low == high:
        return ("touch", low)
    return ("along",) if is_ahead(low, high) else ("none",)


def lie_along(a, b, c, d):
    """Whether the stretch from a to b and that from c to d have more than one common point."""
    if turn(a, b, c) != 0 or turn(a, b, d) != 0:
        return False
    return meeting_in_line(a, b, c, d) == ("along",)


def line_through(a, b):
    """Three numbers that make with each point of the line through a and b the sum 0."""
    return (a[1] * b[2] - a[2] * b[1], a[2] * b[0] - a[0] * b[2], a[0] * b[1] - a[1] * b[0])


def common_point(a, b, c, d):
    """The point of the line through a and b that lies on the line through c and d, too."""
    one, other = line_through(a, b), line_through(c, d)
    # The three numbers of a point on both lines are found from those of the lines
    # by the same sums as the line through two points.
    x, y, bottom = line_through(one, other)
    return point_at(x, y, bottom)


def point_between(a, b, share):
    """The point a + share * (b - a), share being a fraction."""
    behind = share[0] * a[2]
    ahead = (share[1] - share[0]) * b[2]
    return point_at(a[0] * ahead + b[0] * behind, a[1] * ahead + b[1] * behind, a[2] * b[2] * share[1])


def closed_stretches(points):
    """The stretches between neighbours, the last and the first of these points being neighbours, too."""
    return [(points[k - 1], points[k]) for k in range(len(points))]


def goes_upward(stretch, spot):
    """1 if the stretch comes from the height of the spot, or below it, to above; -1 the other way; else 0."""
    heights = [point[1] * spot[2] > spot[1] * point[2] for point in stretch]
    return int(heights[1]) - int(heights[0])


def is_crossed(stretch, spot):
    """Whether a half line from the spot to the right crosses the stretch."""
    # Points at its height count as below it, as if it rose a little: so it goes through none of them.
    upward = goes_upward(stretch, spot)
    return upward != 0 and turn(stretch[0], stretch[1], spot) == upward


def is_round(points, spot):
    """Whether a half line from the spot crosses the closed line through these points an odd number of times."""
    return len([stretch for stretch in closed_stretches(points) if is_crossed(stretch, spot)]) % 2 == 1
