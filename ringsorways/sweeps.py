"""What a fence goes over while one end of it is led straight on, at which times (section 14)."""

from ringsorways.exact import least_terms
from ringsorways.geometry import lies_on, line_through, point_between
from ringsorways.ground import height_over


class Sweep:
    """A fence with one end fixed, the other one, its tip, led from start to goal, both whole points.

    The fixed end does not lie between start and goal. All times that are told are strictly between 0 and 1.
    """

    def __init__(self, fixed, start, goal):
        self.fixed = fixed
        self.start = start
        self.goal = goal

    def stretch_at(self, time):
        """The fence at this time."""
        return (self.fixed, point_between(self.start, self.goal, time))

    def times_through(self, a, b):
        """The times at which the tip goes through the stretch from a to b: one at the most, none if it goes along."""
        return [time for time in self.times_over_line(a, b) if lies_on(a, b, self.stretch_at(time)[1])]

    def times_over(self, point):
        """The times at which the fence goes over the point: one at the most, none if it stays on one line.

        None either for the fixed end: it makes no line with itself, so that all is at its height.
        """
        found = self.times_over_line(self.fixed, point)
        return [time for time in found if lies_on(self.fixed, self.stretch_at(time)[1], point)]

    def times_over_line(self, a, b):
        """The times at which the tip goes from one side of the line through a and b to the other."""
        line = line_through(a, b)
        # Both are whole points, so their heights are told by one measure, and change evenly between them.
        ahead, behind = height_over(line, self.start), height_over(line, self.goal)
        if ahead * behind >= 0:
            return []
        return [least_terms(abs(ahead), abs(ahead) + abs(behind))]
