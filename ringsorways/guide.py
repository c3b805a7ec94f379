"""Ways and crossing ways, found (section 2)."""

from ringsorways.cells import Cells
from ringsorways.drawings import place_of
from ringsorways.ground import Ground


class Guide:
    """Leads through a drawing."""

    def __init__(self, drawing):
        self.ground = Ground(drawing)
        self.cells = Cells(drawing, self.ground.stretches)
        self.corners = drawing.corners
        self.pieces = [(place_of(drawing, name), i, j) for name, i, j in drawing.pieces]

    def way(self, one, other):
        """A way between two points that lie on no fence, as a list; None if there is none."""
        if one == other:
            return [one]
        if self.ground.is_clear(one, other):
            return [one, other]
        steps = steps_between(self.cells, one, other)
        if steps is None:
            return None
        return self.straightened(bent(self.cells, one, other, steps))

    def straightened(self, points):
        """The way without points that can be left out, as far as this is easily seen."""
        kept = []
        for point in points:
            while len(kept) > 1 and self.ground.is_clear(kept[-2], point):
                kept.pop()
            kept.append(point)
        return kept

    def crossing_way(self, one, other, halves):
        """The crossing way between two spots, a tuple, that goes through these half pieces, each from left to right."""
        points = []
        at = one
        for half in halves:
            left, right = self.banks(half)
            points.extend(self.way(at, left))
            at = right
        points.extend(self.way(at, other))
        return tuple(points)

    def banks(self, half):
        """A point at the left of the half piece and one at its right, nothing but its piece being between them."""
        fence, i, j = self.pieces[half // 2]
        pair = self.cells.beside(fence, self.corners[i], self.corners[j])
        return pair if half % 2 == 0 else pair[::-1]


def steps_between(cells, one, other):
    """The row of (cell, point) by which one comes to the other: through the point into the cell. None if none does.

    The first cell, where one lies, is entered through None.
    """
    goals = cells.cells_at(other)
    came = {cell: None for cell in cells.cells_at(one)}
    wave = list(came)
    while wave:
        ahead = []
        for cell in wave:
            if cell in goals:
                return steps_to(came, cell)
            for beyond, point in cells.doors[cell]:
                if beyond not in came:
                    came[beyond] = (cell, point)
                    ahead.append(beyond)
        wave = ahead
    return None


def steps_to(came, cell):
    """The steps by which this cell was reached."""
    steps = []
    while came[cell] is not None:
        before, point = came[cell]
        steps.append((cell, point))
        cell = before
    steps.append((cell, None))
    return steps[::-1]


def bent(cells, one, other, steps):
    """The points of the bent line from one to other that these steps make."""
    points = [one]
    for place, (cell, _) in enumerate(steps):
        ahead = steps[place + 1][1] if place + 1 < len(steps) else other
        # Two points of one cell over the same x lie in one cut, which may be barred between them.
        if points[-1][0] * ahead[2] == ahead[0] * points[-1][2]:
            points.append(cells.point_in(cell))
        points.append(ahead)
    return points
