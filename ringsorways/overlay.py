"""Drawings laid over one another (section 13)."""

from ringsorways.drawings import MOST_FENCES, drawn, stretch_of
from ringsorways.errors import Along, Full, Twice
from ringsorways.geometry import lie_along
from ringsorways.joints import Joints
from ringsorways.layout import layout_of


def overlay(one, other):
    """The Drawing with the fences of one, then those of other."""
    taken = {fence[0]: True for fence in other.fences}
    for fence in one.fences:
        if fence[0] in taken:
            raise Twice(fence[0])
    for fence in one.fences:
        check_along(fence, other.fences)
    many = len(one) + len(other)
    if many > MOST_FENCES:
        raise Full(many)
    return drawn(one.fences + other.fences)


def check_along(fence, others):
    """Raise Along with the first of these others that has more than one point in common with the fence."""
    a, b = stretch_of(fence)
    for other in others:
        c, d = stretch_of(other)
        if lie_along(a, b, c, d):
            raise Along((fence[0], other[0]))


def both(one, other):
    """For each land of both together the lands of one and of other in which it lies."""
    together = overlay(one, other)
    below = [(layout_of(drawing), pieces_below(drawing, together)) for drawing in (one, other)]
    joints = Joints(together)
    homes = {0: (0, 0)}
    ahead = [0]
    # Over a piece of one drawing, another land of this one begins, and that of the other one goes on.
    while ahead:
        land = ahead.pop()
        here = homes[land]
        for half, beyond in joints.rows[land]:
            if beyond not in homes:
                there = [land_over(layout, pieces, half, home) for (layout, pieces), home in zip(below, here)]
                homes[beyond] = tuple(there)
                ahead.append(beyond)
    return tuple([homes[land] for land in range(len(joints.rows))])


def pieces_below(drawing, together):
    """For each piece of both together the number of the piece of drawing on which it lies; None for none."""
    # For each fence the piece that was come to, going along it.
    reached = {}
    for number, (name, _, _) in enumerate(drawing.pieces):
        reached.setdefault(name, number)
    found = []
    for name, _, j in together.pieces:
        piece = reached.get(name)
        found.append(piece)
        if piece is not None and drawing.corners[drawing.pieces[piece][2]] == together.corners[j]:
            reached[name] = piece + 1
    return found


def land_over(layout, pieces, half, home):
    """The land to which one comes from home through this half piece of both together, pieces being those below."""
    piece = pieces[half // 2]
    # Fences go the same way in both, so the half piece below this one has the same sequence of ends.
    return home if piece is None else layout.left_of(2 * piece + 1 - half % 2)
