"""Where fences stand over an upright line, in whole numbers.

Over the line x = top / bottom the place y is told by y * bottom * scale, its height:
scale is chosen such that the heights of all fences are whole numbers.
"""

from math import lcm

from ringsorways.exact import some_between
from ringsorways.geometry import line_through, point_at


class Heights:
    """Fences by the heights at which they stand over upright lines."""

    def __init__(self, stretches):
        lines = [line_through(a, b) for a, b in stretches]
        self.scale = scale_for(stretches, lines)
        # A fence over x = top / bottom has the height rise * top + base * bottom; upright fences have no such row.
        self.rows = [row_for(line, self.scale) for line in lines]

    def over(self, fences, x):
        """The heights of these fences, none of them upright, over x."""
        return [self.rows[fence][0] * x[0] + self.rows[fence][1] * x[1] for fence in fences]

    def of_point(self, point):
        """The height of a point over the line x = point[0] / point[2], its bottom not being made less."""
        return point[1] * self.scale

    def of_end(self, end, x):
        """The height over x of an end of an upright fence, which stands at x."""
        return end[1] * (self.scale // end[2]) * x[1]

    def point_between(self, x, low, high):
        """Some point over x strictly between two heights; None stands for one that is not there."""
        unit = self.scale * x[1]
        y = some_between(None if low is None else (low, unit), None if high is None else (high, unit))
        return point_over(x, y)


def scale_for(stretches, lines):
    """A number that lets all heights be whole numbers."""
    scale = 1
    for (a, b), line in zip(stretches, lines):
        if line[1] != 0:
            scale = lcm(scale, line[1])
        else:
            scale = lcm(scale, a[2], b[2])
    return scale


def row_for(line, scale):
    """(rise, base) of a fence on this line; None if it is upright."""
    if line[1] == 0:
        return None
    share = scale // line[1]
    return (-line[0] * share, -line[2] * share)


def point_over(x, y):
    """The point with these two fractions as coordinates."""
    return point_at(x[0] * y[1], y[0] * x[1], x[1] * y[1])


def x_of(point):
    """The first coordinate of a point, a fraction, its bottom not being made less."""
    return (point[0], point[2])


def y_of(point):
    """The second coordinate of a point, a fraction, its bottom not being made less."""
    return (point[1], point[2])
