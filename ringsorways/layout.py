"""The lands that pieces bound (section 6), for any corners and any pieces between them."""

from ringsorways.exact import added, is_less, least_terms
from ringsorways.geometry import is_round
from ringsorways.turning import halves_of, nexts_of, rounds_along


class Layout:
    """Rounds, their areas, and the lands at their left."""

    def __init__(self, corners, links):
        self.corners = corners
        self.halves = halves_of(links)
        self.nexts = tuple(nexts_of(corners, self.halves))
        self.rounds, self.round_of = rounds_along(self.nexts)
        self.areas = [self.area_of(number) for number in range(len(self.rounds))]
        self.parts = self.parts_of_rounds(links)
        # Land 0 has no rim.
        self.rims = [None] + [number for number, area in enumerate(self.areas) if area[0] > 0]
        self.outers = [number for number, area in enumerate(self.areas) if area[0] <= 0]
        self.outlines = [self.outline(rim) for rim in self.rims]
        self.homes = self.homes_of_rounds()

    def area_of(self, number):
        """The area of the round of this number."""
        total = (0, 1)
        for half in self.rounds[number]:
            # What is gone along both ways adds nothing.
            if self.round_of[half ^ 1] != number:
                i, j = self.halves[half]
                (x, y, bottom), (u, v, other) = self.corners[i], self.corners[j]
                total = added(total, (x * v - u * y, bottom * other))
        return least_terms(total[0], 2 * total[1])

    def parts_of_rounds(self, links):
        """For each round the number of its part."""
        part_of = parts_of_corners(len(self.corners), links)
        return [part_of[self.halves[row[0]][0]] for row in self.rounds]

    def outline(self, rim):
        """The corners that this rim goes by, as points."""
        if rim is None:
            return []
        return [self.corners[self.halves[half][0]] for half in self.rounds[rim]]

    def homes_of_rounds(self):
        """For each round the land at its left."""
        homes = [0] * len(self.rounds)
        for land, rim in enumerate(self.rims):
            if rim is not None:
                homes[rim] = land
        for number in self.outers:
            corner = self.corners[self.halves[self.rounds[number][0]][0]]
            homes[number] = self.land_around(corner, self.parts[number])
        return homes

    def land_around(self, point, part):
        """The land of the least rim that has the point inside; rims of this part do not count."""
        found = 0
        for land in range(1, len(self.rims)):
            rim = self.rims[land]
            if self.parts[rim] == part:
                continue
            if found != 0 and not is_less(self.areas[rim], self.areas[self.rims[found]]):
                continue
            if is_round(self.outlines[land], point):
                found = land
        return found

    def land_at(self, spot):
        """The land of a point that lies on no piece."""
        return self.land_around(spot, None)

    def left_of(self, half):
        """The land at the left of a half piece."""
        return self.homes[self.round_of[half]]

    def islands(self):
        """For each land the ascending list of the outer rounds of the parts in it."""
        rows = [[] for _ in self.rims]
        for number in self.outers:
            rows[self.homes[number]].append(number)
        return rows

    def land_beyond(self, land):
        """The land in which the part of this land's rim lies; land is not 0."""
        part = self.parts[self.rims[land]]
        outer = [number for number in self.outers if self.parts[number] == part]
        return self.homes[outer[0]]


def layout_of(drawing):
    """The Layout of a Drawing."""
    return Layout(drawing.corners, [(i, j) for _, i, j in drawing.pieces])


def parts_of_corners(many, links):
    """For each corner a number that just those have which hang together with it."""
    beside = [[] for _ in range(many)]
    for i, j in links:
        beside[i].append(j)
        beside[j].append(i)
    part_of = [None] * many
    for first in range(many):
        ahead = [first] if part_of[first] is None else []
        while ahead:
            corner = ahead.pop()
            if part_of[corner] is None:
                part_of[corner] = first
                ahead.extend(beside[corner])
    return part_of
