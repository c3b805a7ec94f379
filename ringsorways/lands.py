"""Lands, and how they lie in one another (section 6)."""

from ringsorways.errors import BadLand, BadPiece
from ringsorways.exact import added
from ringsorways.layout import layout_of
from ringsorways.values import is_number_below


def lands(drawing):
    """For each land the number of its rim, None for land 0, and of the outer rounds in it."""
    layout = layout_of(drawing)
    return tuple([(rim, tuple(row)) for rim, row in zip(layout.rims, layout.islands())])


def hanging(drawing):
    """How many parts the drawing has."""
    return len(layout_of(drawing).outers)


def sides(drawing, piece):
    """The lands at the left and at the right of a piece."""
    if not is_number_below(piece, len(drawing.pieces)):
        raise BadPiece(piece)
    layout = layout_of(drawing)
    return (layout.left_of(2 * piece), layout.left_of(2 * piece + 1))


def area(drawing, land):
    """The area of a land other than land 0, without what lies in it, a fraction."""
    layout = layout_of(drawing)
    if not is_number_below(land, len(layout.rims)) or land == 0:
        raise BadLand(land)
    total = layout.areas[layout.rims[land]]
    for number in layout.islands()[land]:
        total = added(total, layout.areas[number])
    return total


def around(drawing, land):
    """The lands that have this one within their rims, the nearest one first, without land 0."""
    layout = layout_of(drawing)
    if not is_number_below(land, len(layout.rims)):
        raise BadLand(land)
    found = []
    while land != 0:
        land = layout.land_beyond(land)
        found.append(land)
    return tuple(found[:-1])
