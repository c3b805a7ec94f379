"""The tests' own ruler: lands, ways and rings worked out by Fractions, and by the words of the document.

Nothing here asks the program, but for what a Drawing tells of its corners and pieces,
which other tests hold against sums of their own.
"""

import heapq
from fractions import Fraction
from math import gcd

from tests.support import cross, ends_of, place, slow_inside, slow_lies_on, slow_meet

DIRECTIONS = [(7 * k + 3, k * k + 1) for k in range(60)]


def is_true_point(value):
    """Whether value is a point, by the words of section 2."""
    if type(value) is not tuple or len(value) != 3 or any(type(number) is not int for number in value):
        return False
    return value[2] >= 1 and gcd(*value) == 1


def is_free(fences, point):
    """Whether the point lies on no fence."""
    return not any(slow_lies_on(*ends_of(fence), point) for fence in fences)


def is_true_spot(fences, value):
    if not is_true_point(value) or value[2] > 1000 or any(abs(at) > 2000 for at in place(value)):
        return False
    return is_free(fences, value)


# Half pieces, rounds, lands


def vector(corners, i, j):
    (ax, ay), (bx, by) = place(corners[i]), place(corners[j])
    return bx - ax, by - ay


def half_ends(pieces):
    return [ends for _, i, j in pieces for ends in ((i, j), (j, i))]


def clockwise_share(base, other):
    """What grows from 0 to below 4 as other is turned clockwise away from base; 4 if it lies on base itself."""
    across = -cross(*base, *other)
    along = base[0] * other[0] + base[1] * other[1]
    if across == 0:
        return 4 if along > 0 else 2
    # How far it is turned within its half, told by a share that grows with it.
    share = Fraction(along, abs(across) + abs(along))
    return 1 - share if across > 0 else 3 + share


def slow_nexts(corners, pieces):
    """The next half pieces, by turning clockwise from the other half on."""
    ends = half_ends(pieces)
    told = []
    for half, (i, j) in enumerate(ends):
        base = vector(corners, j, i)
        leaving = [one for one in range(len(ends)) if ends[one][0] == j]
        told.append(min(leaving, key=lambda one: clockwise_share(base, vector(corners, *ends[one]))))
    return tuple(told)


def slow_rounds(follow):
    """The rounds that these nexts make."""
    found = set()
    for half in range(len(follow)):
        row = [half]
        while follow[row[-1]] != half:
            row.append(follow[row[-1]])
        least = row.index(min(row))
        found.add(tuple(row[least:] + row[:least]))
    return tuple(sorted(found))


def slow_area(corners, ends, row):
    """The area of a round."""
    total = Fraction(0)
    for half in row:
        (x, y), (u, v) = place(corners[ends[half][0]]), place(corners[ends[half][1]])
        total += x * v - u * y
    return total / 2


def odd_crossings(points, spot):
    """Whether a half line from spot crosses the closed line an odd number of times."""
    for direction in DIRECTIONS:
        told = slow_inside(points, spot, direction)
        if told is not None:
            return told
    raise AssertionError("no half line was found that goes through no corner")


class Map:
    """Rounds and lands of a drawing, by the words of section 6."""

    def __init__(self, corners, pieces):
        self.corners, self.pieces = corners, pieces
        self.ends = half_ends(pieces)
        self.nexts = slow_nexts(corners, pieces)
        self.rounds = slow_rounds(self.nexts)
        self.areas = [slow_area(corners, self.ends, row) for row in self.rounds]
        self.part_of = self.parts()
        self.outers = [number for number, area in enumerate(self.areas) if area <= 0]
        self.rims = [None] + [number for number, area in enumerate(self.areas) if area > 0]
        self.home = {}
        for number, row in enumerate(self.rounds):
            self.home[number] = self.rims.index(number) if number in self.rims else self.land_around(
                corners[self.ends[row[0]][0]], self.part(number))
        self.islands = [tuple(number for number in self.outers if self.home[number] == land)
                        for land in range(len(self.rims))]

    def parts(self):
        """For each corner the least corner that it hangs together with."""
        least = list(range(len(self.corners)))
        changed = True
        while changed:
            changed = False
            for _, i, j in self.pieces:
                if least[i] != least[j]:
                    least[i] = least[j] = min(least[i], least[j])
                    changed = True
        return least

    def part(self, number):
        return self.part_of[self.ends[self.rounds[number][0]][0]]

    def outline(self, number):
        return [self.corners[self.ends[half][0]] for half in self.rounds[number]]

    def land_around(self, point, part=None):
        """The land of the least rim, of another part, that has the point inside."""
        found = [(self.areas[rim], land) for land, rim in enumerate(self.rims)
                 if rim is not None and self.part(rim) != part and odd_crossings(self.outline(rim), point)]
        return min(found)[1] if found else 0

    def lands(self):
        return tuple(zip(self.rims, self.islands))

    def sides(self, piece):
        number = [next(n for n, row in enumerate(self.rounds) if half in row) for half in (2 * piece, 2 * piece + 1)]
        return tuple(self.home[at] for at in number)

    def area(self, land):
        total = self.areas[self.rims[land]] + sum(self.areas[number] for number in self.islands[land])
        return (total.numerator, total.denominator)

    def around(self, land):
        found = []
        while land:
            part = self.part(self.rims[land])
            land = next(self.home[number] for number in self.outers if self.part(number) == part)
            found.append(land)
        return tuple(found[:-1])


# Ways and rings


def slow_passings(drawing, points):
    """For each piece how often the crossing way through these points goes through it; None if it is none."""
    if type(points) is not tuple or not points or not all(is_true_point(point) for point in points):
        return None
    if not all(is_free(drawing.fences, point) for point in points):
        return None
    times = {}
    for p, q in zip(points, points[1:]):
        if p == q:
            return None
        for fence in drawing.fences:
            met = slow_meet(p, q, *ends_of(fence))
            if met[0] == "none":
                continue
            if met[0] != "cross" or met[1] in drawing.corners:
                return None
            piece = piece_with(drawing, fence[0], met[1])
            times[piece] = times.get(piece, 0) + 1
    return times


def piece_with(drawing, name, point):
    """The piece of the fence of this name on which the point lies."""
    found = [number for number, (called, i, j) in enumerate(drawing.pieces)
             if called == name and slow_lies_on(drawing.corners[i], drawing.corners[j], point)]
    assert len(found) == 1
    return found[0]


def prices_of(drawing):
    prices = {fence[0]: fence[3] for fence in drawing.fences}
    return [prices[name] for name, _, _ in drawing.pieces]


def slow_way_price(drawing, points):
    times = slow_passings(drawing, points)
    return None if times is None else sum(prices_of(drawing)[piece] * many for piece, many in times.items())


def is_true_way(drawing, points, one, other):
    """Whether the points are a way from one to other."""
    return slow_passings(drawing, points) == {} and points[0] == one and points[-1] == other


def slow_ring_pieces(drawing, ring):
    """The pieces of a ring; None if it is none."""
    if type(ring) is not tuple or len(ring) < 3 or any(type(corner) is not int for corner in ring):
        return None
    if len(set(ring)) < len(ring):
        return None
    found = []
    for k in range(len(ring)):
        pair = {ring[k - 1], ring[k]}
        piece = [number for number, (_, i, j) in enumerate(drawing.pieces) if {i, j} == pair]
        if len(piece) != 1:
            return None
        found.append(piece[0])
    return found


def slow_ring_has(drawing, ring, spot):
    return odd_crossings([drawing.corners[corner] for corner in ring], spot)


def is_true_parting(drawing, ring, one, other):
    """Whether the ring is one, and has just one of both inside."""
    if slow_ring_pieces(drawing, ring) is None:
        return False
    return slow_ring_has(drawing, ring, one) != slow_ring_has(drawing, ring, other)


def slow_ring_price(drawing, ring):
    return sum(prices_of(drawing)[piece] for piece in slow_ring_pieces(drawing, ring))


# Searches


def all_rings(drawing):
    """Every ring of a small drawing, once, begun at its least corner."""
    beside = {}
    for _, i, j in drawing.pieces:
        beside.setdefault(i, []).append(j)
        beside.setdefault(j, []).append(i)
    found = []

    def go(ring):
        for corner in beside[ring[-1]]:
            if corner == ring[0] and len(ring) > 2 and ring[1] < ring[-1]:
                found.append(tuple(ring))
            elif corner > ring[0] and corner not in ring:
                go(ring + [corner])

    for first in sorted(beside):
        go([first])
    return found


class Strips:
    """The plane cut upright at all corners, and at the spots: what lies between two fences in a strip is a node.

    Nothing is taken together here; nodes are joined for 0 where the cut is open between them,
    and for the price of the fence that lies between them.
    """

    def __init__(self, fences, corners):
        self.fences = fences
        self.cuts = sorted({place(corner)[0] for corner in corners})
        self.middles = self.strip_middles()
        self.orders = [self.order(k) for k in range(len(self.middles))]
        self.joined = {}
        for k, order in enumerate(self.orders):
            for at, fence in enumerate(order):
                self.join((k, at), (k, at + 1), fences[fence][3], fences[fence][0])
        for k, cut in enumerate(self.cuts):
            self.join_over(k, cut)

    def strip_middles(self):
        if not self.cuts:
            return [Fraction(0)]
        between = [(a + b) / 2 for a, b in zip(self.cuts, self.cuts[1:])]
        return [self.cuts[0] - 1] + between + [self.cuts[-1] + 1]

    def height(self, fence, x):
        (ax, ay), (bx, by) = self.fences[fence][1], self.fences[fence][2]
        return ay + (x - ax) * Fraction(by - ay, bx - ax)

    def order(self, k):
        x = self.middles[k]
        found = [n for n, (_, a, b, _) in enumerate(self.fences) if min(a[0], b[0]) < x < max(a[0], b[0])]
        return sorted(found, key=lambda fence: self.height(fence, x))

    def join(self, one, other, price, name):
        self.joined.setdefault(one, []).append((other, price, name))
        self.joined.setdefault(other, []).append((one, price, name))

    def join_over(self, k, cut):
        """Join what lies left and right of this cut, height by height."""
        marks = {self.height(fence, cut) for fence in self.orders[k] + self.orders[k + 1]}
        bars = []
        for name, a, b, price in self.fences:
            if a[0] == b[0] == cut:
                bars.append((min(a[1], b[1]), max(a[1], b[1]), price, name))
                marks |= {Fraction(a[1]), Fraction(b[1])}
        marks = sorted(marks)
        heights = [marks[0] - 1] + [(a + b) / 2 for a, b in zip(marks, marks[1:])] + [marks[-1] + 1]
        for y in heights:
            barred = [(price, name) for low, high, price, name in bars if low < y < high]
            price, name = barred[0] if barred else (0, None)
            self.join((k, self.place(k, cut, y)), (k + 1, self.place(k + 1, cut, y)), price, name)

    def place(self, k, x, y):
        return sum(self.height(fence, x) < y for fence in self.orders[k])

    def node(self, spot):
        x, y = place(spot)
        k = sum(cut < x for cut in self.cuts)
        return (k, self.place(k, x, y))

    def costs(self, spot, barred=None):
        """The least price of all crossing ways from the spot to each node, through no piece of the barred fence."""
        found = {}
        queue = [(0, self.node(spot))]
        while queue:
            cost, node = heapq.heappop(queue)
            if node not in found:
                found[node] = cost
                for other, price, name in self.joined.get(node, []):
                    if name is None or name != barred:
                        heapq.heappush(queue, (cost + price, other))
        return found

    def cost(self, one, other, barred=None):
        return self.costs(one, barred)[self.node(other)]


def turned(point):
    return (-point[1], point[0], point[2])


def mirrored(point):
    return (-point[0], point[1], point[2])
