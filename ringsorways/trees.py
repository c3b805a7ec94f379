"""Trees of rings (section 15)."""

from ringsorways.errors import BadSpots
from ringsorways.flows import greatest_flow
from ringsorways.ground import Ground, is_spot
from ringsorways.joints import Joints
from ringsorways.layout import parts_of_corners
from ringsorways.rings import has_inside
from ringsorways.tightest import shows_tightest, tightest
from ringsorways.values import is_number_below

FEWEST_SPOTS = 2
MOST_SPOTS = 6


def tree(drawing, spots):
    """Any tuple of rows (i, j, told) that tells the cheapest ring between each two of these spots."""
    check_spot_row(drawing, spots)
    joints = Joints(drawing)
    homes = [joints.layout.land_at(spot) for spot in spots]
    # The first spot of each land stands for all of it, the others hang on it.
    firsts = [place for place, home in enumerate(homes) if homes.index(home) == place]
    links = [(homes.index(home), place) for place, home in enumerate(homes) if place not in firsts]
    rows = [(i, j, tightest(drawing, spots[i], spots[j])) for i, j in links]
    lands = [homes[place] for place in firsts]
    cuts = cuts_between(joints, joints.prices, lands)
    for number, near in enumerate(cuts):
        one, other = ends_of_cut(cuts, number, lands)
        i, j = firsts[one], firsts[other]
        _, price, _, ways = tightest(drawing, spots[i], spots[j])
        # Of all rings of this price, this one lies beside all others of the tree.
        rows.append((i, j, ("ring", price, ring_of_cut(joints, near, homes[i], homes[j]), ways)))
    return tuple(rows)


def ring_of_cut(joints, near, one, other):
    """The ring between both sides of the cut, which parts these two lands."""
    return joints.ring_about(near, one, other) if near[one] else joints.ring_about(near, other, one)


def check_spot_row(drawing, value):
    """Raise BadSpots unless value is a tuple of two to six unlike spots of the drawing."""
    if not isinstance(value, tuple) or not FEWEST_SPOTS <= len(value) <= MOST_SPOTS:
        raise BadSpots(value)
    ground = Ground(drawing)
    if not all([is_spot(ground, spot) for spot in value]) or len(set(value)) < len(value):
        raise BadSpots(value)


def cuts_between(joints, prices, lands):
    """Cuts, one less than these lands, such that each two of them are parted by a cheapest cut between them.

    A cut tells for each land of the drawing whether it lies at the first side. No two cuts cross: once
    one is made, the cuts on one side of it do not go through the other side, which counts as one land for them.
    """
    if len(lands) < 2:
        return []
    _, near = greatest_flow(joints, prices, lands[0], lands[1])
    cuts = [near]
    for side in (True, False):
        kept = [land for land in lands if near[land] == side]
        cuts.extend(cuts_between(joints, barred_within(joints, prices, near, not side), kept))
    return cuts


def barred_within(joints, prices, near, side):
    """The prices, those of all pieces within this side of the cut being above what any cut can cost."""
    high = sum(joints.prices) + 1
    barred = []
    for piece, price in enumerate(prices):
        lands = (joints.layout.left_of(2 * piece), joints.layout.left_of(2 * piece + 1))
        barred.append(high if near[lands[0]] == side and near[lands[1]] == side else price)
    return barred


def ends_of_cut(cuts, number, lands):
    """The places (i, j), i < j, of the only two of these lands that are parted by the cut of this number alone."""
    for j in range(len(lands)):
        for i in range(j):
            parted = [at for at, near in enumerate(cuts) if near[lands[i]] != near[lands[j]]]
            if parted == [number]:
                return (i, j)
    return None


def shows_tree(drawing, spots, value):
    """Whether value is right as what tree tells."""
    check_spot_row(drawing, spots)
    if not isinstance(value, tuple) or len(value) != len(spots) - 1:
        return False
    if not all([is_tree_row(row, len(spots)) for row in value]):
        return False
    links = [(i, j) for i, j, _ in value]
    if any([part != 0 for part in parts_of_corners(len(spots), links)]):
        return False
    return all([is_right_row(drawing, spots, value, place) for place in range(len(value))])


def is_tree_row(row, many):
    """Whether this is (i, j, anything), i < j being two of so many numbers."""
    if not isinstance(row, tuple) or len(row) != 3:
        return False
    return is_number_below(row[1], many) and is_number_below(row[0], row[1])


def is_right_row(drawing, spots, rows, place):
    """Whether the row at this place tells what is right; the rows join all spots."""
    i, j, told = rows[place]
    if not shows_tightest(drawing, spots[i], spots[j], told):
        return False
    if told[0] == "way":
        return True
    rest = rows[:place] + rows[place + 1:]
    part_of = parts_of_corners(len(spots), [(one, other) for one, other, _ in rest])
    within = [has_inside(drawing, told[2], spot) for spot in spots]
    return all([within[at] == within[i if part_of[at] == part_of[i] else j] for at in range(len(spots))])
