"""The cheapest way, and the rings that bar it (section 9)."""

from ringsorways.drawings import place_of
from ringsorways.ground import check_spots
from ringsorways.guide import Guide
from ringsorways.joints import Joints
from ringsorways.rings import parting_pieces, piece_numbers, piece_prices
from ringsorways.values import are_counted, is_whole_number
from ringsorways.ways import Gauge


def cheapest(drawing, one, other):
    """(cost, way, rings): any cheapest crossing way, and rings that together show it to be the cheapest."""
    check_spots(drawing, (one, other))
    joints = Joints(drawing)
    start, goal = joints.layout.land_at(one), joints.layout.land_at(other)
    costs, came = joints.costs_from(start, None)
    way = Guide(drawing).crossing_way(one, other, joints.path_to(came, goal))
    return (costs[goal], way, barring_rings(joints, costs, start, goal))


def barring_rings(joints, costs, start, goal):
    """The pairs (ring, many) that bar the way from start to goal, as often as it costs."""
    levels = sorted({cost for cost in costs.values() if cost < costs[goal]})
    rings = []
    # Between two neighbouring levels the same lands can be reached, so it is the same ring all the while.
    for low, high in zip(levels, levels[1:] + [costs[goal]]):
        near = [costs[land] <= low for land in range(len(joints.rows))]
        rings.append((joints.ring_about(near, start, goal), high - low))
    return tuple(rings)


def shows_cheapest(drawing, one, other, value):
    """Whether value is right as what cheapest tells."""
    check_spots(drawing, (one, other))
    if not isinstance(value, tuple) or len(value) != 3:
        return False
    cost, way, rings = value
    if not is_whole_number(cost) or not are_counted(rings) or sum([many for _, many in rings]) != cost:
        return False
    gauge = Gauge(drawing)
    times = gauge.crossing_between(way, one, other)
    if times is None or gauge.price_of(times) != cost:
        return False
    return do_bar(drawing, one, other, rings)


def do_bar(drawing, one, other, rings):
    """Whether these pairs (ring, many) are rings that part the spots, no piece in more of them than its price."""
    numbers = piece_numbers(drawing)
    left = piece_prices(drawing)
    for ring, many in rings:
        pieces = parting_pieces(drawing, numbers, ring, one, other)
        if pieces is None:
            return False
        for piece in pieces:
            left[piece] -= many
    return all([rest >= 0 for rest in left])


def cost_without(drawing, one, other, name):
    """The least price of all crossing ways that go through no piece of the fence of this name."""
    check_spots(drawing, (one, other))
    place_of(drawing, name)
    joints = Joints(drawing)
    costs, _ = joints.costs_from(joints.layout.land_at(one), name)
    return costs[joints.layout.land_at(other)]
