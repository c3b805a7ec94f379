"""Rings of a drawing (section 2): what is one, what it is made of, what is inside."""

from ringsorways.geometry import is_round
from ringsorways.values import is_number_below


def piece_numbers(drawing):
    """The number of the piece that has these two corners as its ends, for either sequence of them."""
    numbers = {}
    for number, (_, i, j) in enumerate(drawing.pieces):
        numbers[(i, j)] = number
        numbers[(j, i)] = number
    return numbers


def piece_prices(drawing):
    """The prices of all pieces, by number."""
    prices = {name: price for name, _, _, price in drawing.fences}
    return [prices[name] for name, _, _ in drawing.pieces]


def ring_pieces(drawing, numbers, value):
    """The numbers of the pieces of this ring; None if value is no ring. numbers come from piece_numbers."""
    if not isinstance(value, tuple) or len(value) < 3:
        return None
    if not all([is_number_below(corner, len(drawing.corners)) for corner in value]) or len(set(value)) < len(value):
        return None
    pieces = [numbers.get((value[k - 1], value[k])) for k in range(len(value))]
    return None if None in pieces else pieces


def has_inside(drawing, ring, spot):
    """Whether the spot is inside the ring."""
    return is_round([drawing.corners[corner] for corner in ring], spot)


def parting_pieces(drawing, numbers, value, one, other):
    """What ring_pieces tells, if value is a ring that has just one of both spots inside; else None."""
    pieces = ring_pieces(drawing, numbers, value)
    if pieces is None or has_inside(drawing, value, one) == has_inside(drawing, value, other):
        return None
    return pieces


def ring_of_links(links):
    """The ring that these pieces make together, told by the corners of each."""
    beside = {}
    for i, j in links:
        beside.setdefault(i, []).append(j)
        beside.setdefault(j, []).append(i)
    ring = [links[0][0], links[0][1]]
    while True:
        one, other = beside[ring[-1]]
        corner = other if one == ring[-2] else one
        if corner == ring[0]:
            return tuple(ring)
        ring.append(corner)
