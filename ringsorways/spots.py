"""Spots and ways (section 7)."""

from ringsorways.ground import check_spots
from ringsorways.guide import Guide
from ringsorways.layout import layout_of


def land_of(drawing, spot):
    """The number of the land in which the spot lies."""
    check_spots(drawing, (spot,))
    return layout_of(drawing).land_at(spot)


def way_between(drawing, one, other):
    """Any way from one spot to the other; None if they are of unlike lands."""
    check_spots(drawing, (one, other))
    points = Guide(drawing).way(one, other)
    return None if points is None else tuple(points)
