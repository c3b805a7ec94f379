"""An end that is led (section 14)."""

from ringsorways.cutting import cut, links_of
from ringsorways.drawings import drawn, stretch_of, without
from ringsorways.ends import first_along, place_to_lead, with_end_at
from ringsorways.errors import Along, BadSpot, Same, Through
from ringsorways.exact import ascending, halfway
from ringsorways.geometry import lies_on
from ringsorways.ground import Ground, is_spot
from ringsorways.parity import is_any_parting
from ringsorways.sweeps import Sweep


class Lead:
    """A fence of a drawing, an end of which is led to a point."""

    def __init__(self, drawing, name, end, point):
        place = place_to_lead(drawing, name, end, point)
        ends = stretch_of(drawing.fences[place])
        if ends[end] == point:
            raise Same((point, point))
        if lies_on(ends[end], point, ends[1 - end]):
            raise Through(name)
        fences = with_end_at(drawing.fences, place, end, point)
        check_along(fences, place)
        self.sweep = Sweep(ends[1 - end], ends[end], point)
        # The other fences alone, and what bars spots at the time 0 and at the time 1.
        self.others = without(drawing, name)
        self.grounds = [Ground(drawing), Ground(drawn(fences))]

    def check_spot(self, value):
        """Raise BadSpot unless value is a spot at the time 0 and at the time 1."""
        if not all([is_spot(ground, value) for ground in self.grounds]):
            raise BadSpot(value)

    def moments(self):
        """All moments, ascending.

        An end that goes along a fence comes on it, or leaves it, where this fence has an end, so that a corner
        tells it. A fence that stays on one line comes over a corner where its end goes through another fence,
        as none lies along this line: it would lie along the led one at the time 0 or at the time 1.
        """
        found = []
        for fence in self.others.fences:
            a, b = stretch_of(fence)
            found.extend(self.sweep.times_through(a, b))
        for corner in self.others.corners:
            found.extend(self.sweep.times_over(corner))
        return ascending(found)

    def is_parted(self, time, one, other):
        """Whether a ring parts the two spots at this time."""
        stretches = [stretch_of(fence) for fence in self.others.fences]
        corners, rows = cut(stretches + [self.sweep.stretch_at(time)])
        return is_any_parting(corners, links_of(rows), one, other)


def check_along(fences, place):
    """Raise Along if the fence at this place has more than one point in common with another one."""
    other = first_along(fences, place)
    if other is not None:
        first, second = sorted([place, other])
        raise Along((fences[first][0], fences[second][0]))


def moments(drawing, name, end, point):
    """All times at which something else touches than just before them, or than just behind them."""
    return tuple(Lead(drawing, name, end, point).moments())


def swept(drawing, name, end, point, spot):
    """The times strictly between 0 and 1 at which the spot lies on the led fence: one at the most."""
    lead = Lead(drawing, name, end, point)
    lead.check_spot(spot)
    return tuple(lead.sweep.times_over(spot))


def parted_when(drawing, name, end, point, one, other):
    """(from, to, is_parted) for all open stretches of time in which nothing changes, ascending."""
    lead = Lead(drawing, name, end, point)
    lead.check_spot(one)
    lead.check_spot(other)
    found = lead.moments() + lead.sweep.times_over(one) + lead.sweep.times_over(other)
    times = ascending([(0, 1), (1, 1)] + found)
    return tuple([
        (low, high, lead.is_parted(halfway(low, high), one, other)) for low, high in zip(times, times[1:])
    ])
