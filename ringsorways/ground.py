"""What the fences of a drawing do to points and stretches (section 2)."""

from ringsorways.drawings import stretch_of
from ringsorways.errors import BadSpot
from ringsorways.geometry import lies_on, line_through, meeting
from ringsorways.values import is_point

GREATEST_BOTTOM = 1000
FARTHEST_SPOT = 2000


class Ground:
    """The fences of a drawing, as stretches and as lines."""

    def __init__(self, drawing):
        self.stretches = [stretch_of(fence) for fence in drawing.fences]
        self.lines = [line_through(a, b) for a, b in self.stretches]

    def is_bare(self, point):
        """Whether the point lies on no fence."""
        for line, (a, b) in zip(self.lines, self.stretches):
            if height_over(line, point) == 0 and lies_on(a, b, point):
                return False
        return True

    def met(self, p, q):
        """(fence, how) for each fence that the stretch from p to q meets, by number, in the words of plane.meet."""
        found = []
        for number, line in enumerate(self.lines):
            if height_over(line, p) * height_over(line, q) <= 0:
                a, b = self.stretches[number]
                how = meeting(p, q, a, b)
                if how[0] != "none":
                    found.append((number, how))
        return found

    def is_clear(self, p, q):
        """Whether the stretch from p to q meets no fence."""
        return len(self.met(p, q)) == 0


def height_over(line, point):
    """0 if the point lies on the line; else its sign tells the side."""
    return line[0] * point[0] + line[1] * point[1] + line[2] * point[2]


def is_spot(ground, value):
    """Whether value is a spot of the drawing."""
    if not is_point(value) or value[2] > GREATEST_BOTTOM:
        return False
    return max(abs(value[0]), abs(value[1])) <= FARTHEST_SPOT * value[2] and ground.is_bare(value)


def check_spots(drawing, values):
    """Raise BadSpot with the first of these values that is no spot of the drawing."""
    ground = Ground(drawing)
    for value in values:
        if not is_spot(ground, value):
            raise BadSpot(value)
