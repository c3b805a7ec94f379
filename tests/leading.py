"""The tests' own sums for an end that is led, by the words of section 14."""

import random
from fractions import Fraction

from ringsorways.errors import Along, Same, Through
from tests.ruler import Map, is_true_spot
from tests.support import cross, ends_of, place, point_of, slow_drawing, slow_lies_on, slow_meet


def pair(time):
    """A Fraction as the program tells it."""
    return (time.numerator, time.denominator)


class Leading:
    """The fence of this name, whose end is led to the point."""

    def __init__(self, fences, name, end, point):
        self.fences, self.name, self.end, self.point = fences, name, end, point
        fence = next(fence for fence in fences if fence[0] == name)
        self.fixed, self.start, self.goal = fence[2 - end], fence[1 + end], point[:2]
        self.others = [fence for fence in fences if fence[0] != name]
        self.corners = slow_drawing(self.others)[0]

    def tip(self, time):
        """Where the led end is."""
        return tuple(a + time * (b - a) for a, b in zip(self.start, self.goal))

    def fences_at(self, time):
        """All fences as they stand at this time, with Fractions for coordinates."""
        led = []
        for name, a, b, price in self.fences:
            if name == self.name:
                a, b = (self.tip(time), b) if self.end == 0 else (a, self.tip(time))
            led.append((name, a, b, price))
        return led

    def error(self):
        """(error, value) that is due for where the end is led; None if there is none."""
        if self.goal == self.start:
            return Same, (self.point, self.point)
        if slow_lies_on(self.start + (1,), self.point, self.fixed + (1,)):
            return Through, self.name
        last = self.fences_at(1)
        for at, one in enumerate(last):
            for other in last[at + 1:]:
                if slow_meet(*ends_of(one), *ends_of(other)) == ("along",):
                    return Along, (one[0], other[0])
        return None

    def touches(self, time):
        """What touches at this time."""
        tip = point_of(*self.tip(time))
        names = {fence[0] for fence in self.others if slow_lies_on(*ends_of(fence), tip)}
        return names | {corner for corner in self.corners if slow_lies_on(self.fixed + (1,), tip, corner)}

    def marks(self):
        """Times strictly between 0 and 1 among which are all at which anything may change, ascending."""
        (ax, ay), (bx, by), (ox, oy) = self.start, self.goal, self.fixed
        dx, dy = bx - ax, by - ay
        found = set()
        for x, y in map(place, self.corners):
            found.add(Fraction((x - ax) * dx + (y - ay) * dy) / (dx * dx + dy * dy))
            turned = cross(x - ox, y - oy, dx, dy)
            if turned:
                found.add(Fraction(cross(x - ox, y - oy, ox - ax, oy - ay)) / turned)
        for _, (cx, cy), (ex, ey), _ in self.others:
            turned = cross(ex - cx, ey - cy, dx, dy)
            if turned:
                found.add(Fraction(cross(ex - cx, ey - cy, cx - ax, cy - ay), turned))
        return sorted(time for time in found if 0 < time < 1)

    def moments(self):
        """All moments: what touches then is looked at, and what touches just before and just behind."""
        marks = [Fraction(0)] + self.marks() + [Fraction(1)]
        told = []
        for before, time, behind in zip(marks, marks[1:], marks[2:]):
            now = self.touches(time)
            if now != self.touches((before + time) / 2) or now != self.touches((time + behind) / 2):
                told.append(time)
        return told

    def is_spot(self, spot):
        """Whether it is a spot at the time 0 and at the time 1."""
        return all(is_true_spot(self.fences_at(time), spot) for time in (0, 1))

    def swept(self, spot):
        """The times at which the spot lies on the led fence, found as the path's meeting with a line over the spot."""
        (ox, oy), (x, y) = self.fixed, place(spot)
        (ax, ay), (bx, by) = self.start, self.goal
        dx, dy = bx - ax, by - ay
        turned = cross(x - ox, y - oy, dx, dy)
        if turned == 0:
            return []
        time = Fraction(cross(x - ox, y - oy, ox - ax, oy - ay)) / turned
        if not 0 < time < 1 or not slow_lies_on(self.fixed + (1,), point_of(*self.tip(time)), spot):
            return []
        return [time]

    def stretches(self, *spots):
        """The open stretches of time between all that happens."""
        times = {Fraction(0), Fraction(1), *self.moments()}
        for spot in spots:
            times |= set(self.swept(spot))
        times = sorted(times)
        return list(zip(times, times[1:]))

    def map_at(self, time):
        """The lands at this time."""
        return Map(*slow_drawing(self.fences_at(time)))

    def is_parted(self, time, one, other):
        plain = self.map_at(time)
        return plain.land_around(one) != plain.land_around(other)


def some_leads(fences, seed, many, farthest):
    """Drawn leads of some fences, (name, end, point), those that are refused among them."""
    dice = random.Random(seed)
    ends = [spot for fence in fences for spot in fence[1:3]]
    found = []
    for _ in range(many if fences else 0):
        name, a, b, _ = dice.choice(fences)
        goal = (dice.randint(-farthest, farthest), dice.randint(-farthest, farthest))
        choice = dice.random()
        if choice < 0.25:
            goal = dice.choice(ends)
        elif choice < 0.4:
            # On along the fence, or back, or over to its other side.
            share = dice.choice((-1, 2, 3))
            goal = (a[0] + share * (b[0] - a[0]), a[1] + share * (b[1] - a[1]))
        if max(map(abs, goal)) <= 1000:
            found.append((name, dice.randint(0, 1), goal + (1,)))
    return found


def right_leads(fences, seed, many, farthest):
    """Those of some_leads that are not refused."""
    leads = [Leading(fences, *lead) for lead in some_leads(fences, seed, many, farthest)]
    return [lead for lead in leads if lead.error() is None]
