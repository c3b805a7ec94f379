"""Two hues for all lands (section 12)."""

from ringsorways.joints import Joints
from ringsorways.layout import layout_of
from ringsorways.values import are_integers, is_number_below, is_row


def two_hues(drawing):
    """("hues", any two hues, unlike over each piece), or ("odd", any corner at which an odd number of pieces ends)."""
    for corner, many in enumerate(pieces_at_corners(drawing)):
        if many % 2 == 1:
            return ("odd", corner)
    return ("hues", hues_from_outside(drawing))


def pieces_at_corners(drawing):
    """For each corner how many pieces end there."""
    many = [0] * len(drawing.corners)
    for _, i, j in drawing.pieces:
        many[i] += 1
        many[j] += 1
    return many


def hues_from_outside(drawing):
    """For each land whether an odd number of pieces is gone through on the way from land 0: 0 or 1."""
    joints = Joints(drawing)
    hues = {0: 0}
    ahead = [0]
    while ahead:
        land = ahead.pop()
        for _, beyond in joints.rows[land]:
            if beyond not in hues:
                hues[beyond] = 1 - hues[land]
                ahead.append(beyond)
    return tuple([hues[land] for land in range(len(joints.rows))])


def shows_two_hues(drawing, value):
    """Whether value is right as what two_hues tells."""
    if is_row(value, "odd", 2):
        return is_number_below(value[1], len(drawing.corners)) and pieces_at_corners(drawing)[value[1]] % 2 == 1
    return is_row(value, "hues", 2) and are_hues(drawing, value[1])


def are_hues(drawing, value):
    """Whether value has 0 or 1 for each land, unlike over each piece."""
    layout = layout_of(drawing)
    if not are_integers(value, len(layout.rims)) or not all([hue in (0, 1) for hue in value]):
        return False
    sides = [(layout.left_of(2 * piece), layout.left_of(2 * piece + 1)) for piece in range(len(drawing.pieces))]
    return all([value[left] != value[right] for left, right in sides])
