"""Needed fences (section 11)."""

from ringsorways.drawings import without
from ringsorways.ground import check_spots
from ringsorways.guide import Guide
from ringsorways.parting import is_parting, way_or_ring
from ringsorways.values import is_row


def needed(drawing, one, other, name):
    """("joined", way), ("needed", way without the fence of this name), or ("not", ring without this fence)."""
    check_spots(drawing, (one, other))
    # A spot of the drawing is one of the drawing with a fence less, too.
    fewer = without(drawing, name)
    points = Guide(drawing).way(one, other)
    if points is not None:
        return ("joined", tuple(points))
    word, told = way_or_ring(fewer, one, other)
    return ("needed" if word == "way" else "not", told)


def shows_needed(drawing, one, other, name, value):
    """Whether value is right as what needed tells."""
    check_spots(drawing, (one, other))
    fewer = without(drawing, name)
    if is_row(value, "joined", 2):
        return is_parting(drawing, one, other, ("way", value[1]))
    if is_row(value, "needed", 2):
        return is_parting(fewer, one, other, ("way", value[1])) and Guide(drawing).way(one, other) is None
    if is_row(value, "not", 2):
        return is_parting(fewer, one, other, ("ring", value[1]))
    return False
