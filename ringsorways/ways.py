"""Ways and crossing ways as they are handed in (section 2): what is one, and what it goes through."""

from ringsorways.geometry import lies_on
from ringsorways.ground import Ground, is_spot
from ringsorways.rings import piece_prices
from ringsorways.values import is_point


class Gauge:
    """Holds bent lines against the fences of a drawing."""

    def __init__(self, drawing):
        self.ground = Ground(drawing)
        self.prices = piece_prices(drawing)
        self.corners = {corner: True for corner in drawing.corners}
        names = {fence[0]: number for number, fence in enumerate(drawing.fences)}
        # For each fence its pieces: (number, one end, other end).
        self.pieces = [[] for _ in drawing.fences]
        for number, (name, i, j) in enumerate(drawing.pieces):
            self.pieces[names[name]].append((number, drawing.corners[i], drawing.corners[j]))

    def is_bent_line(self, value):
        """Whether value is a tuple of points that lie on no fence, neighbours being unlike."""
        if not isinstance(value, tuple) or len(value) == 0:
            return False
        if not all([is_point(point) and self.ground.is_bare(point) for point in value]):
            return False
        return all([a != b for a, b in zip(value, value[1:])])

    def gone_through(self, value):
        """For each piece that this crossing way goes through how often it does, as a dict.

        None if value is no crossing way between any points.
        """
        if not self.is_bent_line(value):
            return None
        times = {}
        for p, q in zip(value, value[1:]):
            for fence, how in self.ground.met(p, q):
                if how[0] != "cross" or how[1] in self.corners:
                    return None
                piece = self.piece_at(fence, how[1])
                times[piece] = times.get(piece, 0) + 1
        return times

    def piece_at(self, fence, point):
        """The piece of this fence on which the point lies, which is no corner."""
        found = [number for number, a, b in self.pieces[fence] if lies_on(a, b, point)]
        return found[0]

    def price_of(self, times):
        """What it costs to go through pieces so many times."""
        return sum([self.prices[piece] * many for piece, many in times.items()])

    def joins_spots(self, value):
        """Whether this bent line leads from a spot to a spot."""
        return is_spot(self.ground, value[0]) and is_spot(self.ground, value[-1])

    def crossing_between(self, value, one, other):
        """What gone_through tells of a crossing way from one spot to the other; None if value is none."""
        times = self.gone_through(value)
        return times if times is not None and value[0] == one and value[-1] == other else None

    def is_way(self, value, one, other):
        """Whether value is a way from one spot to the other."""
        times = self.crossing_between(value, one, other)
        return times is not None and len(times) == 0
