"""The plane in cells: how bent lines are found that meet no fence.

Upright cuts go through all corners. Between two neighbouring cuts lies a strip, in which fences
stand over one another and do not meet; between two neighbouring ones of them lies a place. Places
of neighbouring strips between the same two fences are one cell if nothing else lies between them
at the cut: so each cell is bounded by two cuts and two straight fences, and is convex. Where
two cells meet at a cut there is a door, a point through which one comes from the one to the other.
"""

from ringsorways.exact import halfway, is_less, least_terms, some_between
from ringsorways.geometry import turn
from ringsorways.heights import Heights, point_over, x_of, y_of


class Cells:
    """All cells of a drawing, and the doors between them."""

    def __init__(self, drawing, stretches):
        self.heights = Heights(stretches)
        self.cuts = cuts_of(drawing.corners)
        numbers = {cut: number for number, cut in enumerate(self.cuts)}
        # For each fence the cuts at which it begins and ends, from the left.
        self.spans = [sorted([numbers[least_terms(end[0], end[2])] for end in ends]) for ends in stretches]
        self.bars = self.upright_bars(stretches)
        self.orders = [self.order_in(strip) for strip in range(len(self.cuts) + 1)]
        # The one place of the leftmost strip is cell 0. A cell's home is the first place that it has.
        self.numbers = [[0]]
        self.homes = [(0, 0)]
        self.doors = [[]]
        for cut in range(len(self.cuts)):
            self.lead_over(cut)

    def upright_bars(self, stretches):
        """For each cut the heights (low, high) that upright fences take there."""
        bars = [[] for _ in self.cuts]
        for (first, last), (a, b) in zip(self.spans, stretches):
            if first == last:
                x = self.cuts[first]
                low, high = sorted([self.heights.of_end(a, x), self.heights.of_end(b, x)])
                bars[first].append((low, high))
        return bars

    def x_within(self, strip):
        """Some x in this strip, no cut."""
        low = self.cuts[strip - 1] if strip > 0 else None
        high = self.cuts[strip] if strip < len(self.cuts) else None
        return some_between(low, high)

    def order_in(self, strip):
        """The fences that go through this strip, from below."""
        found = [fence for fence, (first, last) in enumerate(self.spans) if first < strip <= last]
        heights = self.heights.over(found, self.x_within(strip))
        return [fence for _, fence in sorted(zip(heights, found))]

    def edges(self, strip, heights, place):
        """(fence below, its height, fence above, its height) for a place of this strip; None for what is not there."""
        order = self.orders[strip]
        below = (order[place - 1], heights[place - 1]) if place > 0 else (None, None)
        above = (order[place], heights[place]) if place < len(order) else (None, None)
        return below + above

    def lead_over(self, cut):
        """Number the cells of the strip behind this cut, and make the doors in the cut."""
        x = self.cuts[cut]
        left = self.heights.over(self.orders[cut], x)
        right = self.heights.over(self.orders[cut + 1], x)
        ahead = [None] * (len(right) + 1)
        found = []
        for low, high in openings([(height, height) for height in left + right] + self.bars[cut]):
            here, there = places_below(left, low), places_below(right, low)
            edges = self.edges(cut, left, here)
            if edges == self.edges(cut + 1, right, there) and (edges[1], edges[3]) == (low, high):
                ahead[there] = self.numbers[cut][here]
            else:
                found.append((here, there, self.heights.point_between(x, low, high)))
        for place in range(len(ahead)):
            if ahead[place] is None:
                ahead[place] = len(self.homes)
                self.homes.append((cut + 1, place))
                self.doors.append([])
        self.numbers.append(ahead)
        for here, there, point in found:
            one, other = self.numbers[cut][here], ahead[there]
            self.doors[one].append((other, point))
            self.doors[other].append((one, point))

    def point_in(self, cell):
        """Some point strictly within this cell."""
        strip, place = self.homes[cell]
        return self.point_in_place(strip, place, self.x_within(strip))

    def point_in_place(self, strip, place, x):
        """Some point over x, which lies in this strip, in this place of it."""
        edges = self.edges(strip, self.heights.over(self.orders[strip], x), place)
        return self.heights.point_between(x, edges[1], edges[3])

    def cells_at(self, point):
        """The cell in which a point on no fence lies; both cells if it lies in a cut between two."""
        strip = self.strip_at(point)
        found = [self.cell_in(strip, point)]
        if strip < len(self.cuts) and not is_less(x_of(point), self.cuts[strip]):
            found.append(self.cell_in(strip + 1, point))
        return found

    def strip_at(self, point):
        """The strip in which the point lies; the one ahead of the cut if it lies in a cut."""
        low, high = 0, len(self.cuts)
        while low < high:
            middle = (low + high) // 2
            if is_less(self.cuts[middle], x_of(point)):
                low = middle + 1
            else:
                high = middle
        return low

    def cell_in(self, strip, point):
        """The cell of this strip, its cuts belonging to it, in which the point lies."""
        return self.numbers[strip][self.place_at(strip, point)]

    def place_at(self, strip, point):
        """The place of this strip, its cuts belonging to it, in which the point lies."""
        return places_below(self.heights.over(self.orders[strip], x_of(point)), self.heights.of_point(point))

    def beside(self, fence, i, j):
        """Two points, left and right of the piece of this fence from corner i to j, told as points.

        The stretch between them meets this piece, at no corner, and nothing else.
        """
        ends = sorted([self.strip_at(i), self.strip_at(j)])
        if ends[0] == ends[1]:
            pair = self.beside_upright(ends[0], i, j)
        else:
            strip = (ends[0] + ends[1] + 1) // 2
            place = self.orders[strip].index(fence)
            x = self.x_within(strip)
            pair = [self.point_in_place(strip, place, x), self.point_in_place(strip, place + 1, x)]
        return pair if turn(i, j, pair[0]) > 0 else pair[::-1]

    def beside_upright(self, cut, i, j):
        """The two points for a piece that stands in this cut."""
        y = some_between(y_of(i), y_of(j)) if is_less(y_of(i), y_of(j)) else some_between(y_of(j), y_of(i))
        middle = point_over(self.cuts[cut], y)
        return [self.point_near(cut, middle, y), self.point_near(cut + 1, middle, y)]

    def point_near(self, strip, middle, y):
        """Some point (.., y) of this strip such that the stretch to middle, (.., y) in its cut, meets no fence."""
        place = self.place_at(strip, middle)
        x = self.x_within(strip)
        point = point_over(x, y)
        # Fences are straight: if the point lies in the same place as middle, all between them does, too.
        while self.place_at(strip, point) != place or self.is_on_fence(strip, point):
            x = halfway(x, x_of(middle))
            point = point_over(x, y)
        return point

    def is_on_fence(self, strip, point):
        """Whether the point lies on one of the fences that go through this strip."""
        return self.heights.of_point(point) in self.heights.over(self.orders[strip], x_of(point))


def cuts_of(corners):
    """The first coordinates of all corners, ascending, as fractions in least terms; corners come as they stand."""
    cuts = []
    for corner in corners:
        cut = least_terms(corner[0], corner[2])
        if len(cuts) == 0 or cuts[-1] != cut:
            cuts.append(cut)
    return cuts


def openings(bars):
    """What lies open between bars, from below: (low, high), None for what has no bound. There is a bar."""
    found = []
    low = None
    for bottom, top in sorted(bars):
        if low is None or bottom > low:
            found.append((low, bottom))
        low = top if low is None else max(low, top)
    found.append((low, None))
    return found


def places_below(heights, height):
    """How many of these ascending heights are not above this one; 0 for None."""
    low, high = 0, len(heights) if height is not None else 0
    while low < high:
        middle = (low + high) // 2
        if heights[middle] <= height:
            low = middle + 1
        else:
            high = middle
    return low
