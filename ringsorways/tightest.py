"""The cheapest ring (section 10)."""

from ringsorways.flows import greatest_flow, taken_apart
from ringsorways.ground import check_spots
from ringsorways.guide import Guide
from ringsorways.joints import Joints
from ringsorways.rings import parting_pieces, piece_numbers, piece_prices
from ringsorways.values import are_counted, is_row, is_whole_number
from ringsorways.ways import Gauge


def tightest(drawing, one, other):
    """("way", any way), or ("ring", price, ring, ways): any cheapest ring, and ways that show it to be the cheapest."""
    check_spots(drawing, (one, other))
    guide = Guide(drawing)
    points = guide.way(one, other)
    if points is not None:
        return ("way", tuple(points))
    joints = Joints(drawing)
    start, goal = joints.layout.land_at(one), joints.layout.land_at(other)
    carried, near = greatest_flow(joints, joints.prices, start, goal)
    paths = taken_apart(joints, carried, start, goal)
    ways = tuple([(guide.crossing_way(one, other, path), many) for path, many in paths])
    return ("ring", sum([many for _, many in paths]), joints.ring_about(near, start, goal), ways)


def shows_tightest(drawing, one, other, value):
    """Whether value is right as what tightest tells."""
    check_spots(drawing, (one, other))
    if is_row(value, "way", 2):
        return Gauge(drawing).is_way(value[1], one, other)
    if not is_row(value, "ring", 4):
        return False
    _, price, ring, ways = value
    pieces = parting_pieces(drawing, piece_numbers(drawing), ring, one, other)
    if pieces is None:
        return False
    prices = piece_prices(drawing)
    if not is_whole_number(price) or price != sum([prices[piece] for piece in pieces]):
        return False
    if not are_counted(ways) or sum([many for _, many in ways]) != price:
        return False
    return do_go_through(drawing, one, other, ways)


def do_go_through(drawing, one, other, ways):
    """Whether these pairs (way, many) are crossing ways between the spots, no piece gone through above its price."""
    gauge = Gauge(drawing)
    left = piece_prices(drawing)
    for way, many in ways:
        times = gauge.crossing_between(way, one, other)
        if times is None:
            return False
        for piece in times:
            left[piece] -= many * times[piece]
    return all([rest >= 0 for rest in left])
