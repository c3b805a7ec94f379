"""Lands as they are joined over pieces: how cheaply one comes from land to land, and which ring bars it."""

from heapq import heappop, heappush

from ringsorways.layout import layout_of
from ringsorways.rings import piece_prices, ring_of_links


class Joints:
    """For each land the half pieces (half, land beyond) that lead out of it, from their left to their right.

    A piece with one land on both sides is no joint.
    """

    def __init__(self, drawing):
        self.layout = layout_of(drawing)
        self.prices = piece_prices(drawing)
        self.names = [name for name, _, _ in drawing.pieces]
        self.rows = [[] for _ in self.layout.rims]
        for half in range(2 * len(self.prices)):
            here, beyond = self.layout.left_of(half), self.layout.left_of(half ^ 1)
            if here != beyond:
                self.rows[here].append((half, beyond))

    def costs_from(self, start, barred):
        """(costs, came): for each land what it costs at least to come there from start, and the last half piece.

        Nothing goes through pieces of the fence that has the name barred; None bars none.
        """
        costs = {start: 0}
        came = {start: None}
        queue = [(0, start)]
        while queue:
            cost, land = heappop(queue)
            if cost > costs[land]:
                continue
            for half, beyond in self.rows[land]:
                price = self.prices[half // 2]
                if self.names[half // 2] != barred and (beyond not in costs or cost + price < costs[beyond]):
                    costs[beyond] = cost + price
                    came[beyond] = half
                    heappush(queue, (cost + price, beyond))
        return costs, came

    def path_to(self, came, goal):
        """The half pieces by which goal was reached, in sequence."""
        path = []
        land = goal
        while came[land] is not None:
            path.append(came[land])
            land = self.layout.left_of(came[land])
        return path[::-1]

    def hanging_together(self, start, among):
        """The lands that hang together with start over pieces, among the lands for which among has True, as a dict."""
        found = {start: True}
        ahead = [start]
        while ahead:
            land = ahead.pop()
            for _, beyond in self.rows[land]:
                if beyond not in found and among[beyond]:
                    found[beyond] = True
                    ahead.append(beyond)
        return found

    def ring_about(self, near, start, goal):
        """The ring between near, a list of bools by land, and goal; near has the land start and not goal.

        Both parts that it parts hang together, so that it is one ring: the lands beyond near that hang
        together with goal, and of all others those that hang together with start.
        """
        far = self.hanging_together(goal, [not is_near for is_near in near])
        inner = self.hanging_together(start, [land not in far for land in range(len(near))])
        links = []
        for land in sorted(inner):
            for half, beyond in self.rows[land]:
                if beyond in far:
                    links.append(self.layout.halves[half])
        return ring_of_links(links)
