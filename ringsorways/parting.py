"""Way or ring (section 8)."""

from ringsorways.errors import BadRing, BadWay
from ringsorways.ground import check_spots
from ringsorways.guide import Guide
from ringsorways.joints import Joints
from ringsorways.rings import has_inside, parting_pieces, piece_numbers, piece_prices, ring_pieces
from ringsorways.values import is_row
from ringsorways.ways import Gauge


def ring_has(drawing, ring, spot):
    """Whether the spot is inside the ring."""
    pieces_of_ring(drawing, ring)
    check_spots(drawing, (spot,))
    return has_inside(drawing, ring, spot)


def ring_price(drawing, ring):
    """The price of the ring."""
    prices = piece_prices(drawing)
    return sum([prices[piece] for piece in pieces_of_ring(drawing, ring)])


def pieces_of_ring(drawing, ring):
    """The numbers of the ring's pieces; raises BadRing."""
    pieces = ring_pieces(drawing, piece_numbers(drawing), ring)
    if pieces is None:
        raise BadRing(ring)
    return pieces


def way_price(drawing, points):
    """The price of a crossing way from any spot to any."""
    gauge = Gauge(drawing)
    times = gauge.gone_through(points)
    if times is None or not gauge.joins_spots(points):
        raise BadWay(points)
    return gauge.price_of(times)


def parting(drawing, one, other):
    """("way", any way from one to other), or ("ring", any ring that parts them)."""
    check_spots(drawing, (one, other))
    return way_or_ring(drawing, one, other)


def way_or_ring(drawing, one, other):
    """What parting tells of two spots that are known to be spots."""
    points = Guide(drawing).way(one, other)
    if points is not None:
        return ("way", tuple(points))
    joints = Joints(drawing)
    start, goal = joints.layout.land_at(one), joints.layout.land_at(other)
    near = [land == start for land in range(len(joints.rows))]
    return ("ring", joints.ring_about(near, start, goal))


def shows_parting(drawing, one, other, value):
    """Whether value is right as what parting tells."""
    check_spots(drawing, (one, other))
    return is_parting(drawing, one, other, value)


def is_parting(drawing, one, other, value):
    """What shows_parting tells of two spots that are known to be spots."""
    if is_row(value, "way", 2):
        return Gauge(drawing).is_way(value[1], one, other)
    if is_row(value, "ring", 2):
        return parting_pieces(drawing, piece_numbers(drawing), value[1], one, other) is not None
    return False
