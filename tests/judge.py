"""The tests' own judgement of what is told as any one of several things, by every word of section 2."""

from ringsorways.drawings import without
from ringsorways.plane import between
from tests.ruler import (Map, is_true_parting, is_true_way, prices_of, slow_passings, slow_ring_has,
                         slow_ring_pieces, slow_ring_price)


def is_row(value, *words_and_sizes):
    """Whether value is a tuple that begins with one of these words and has the size that goes with it."""
    if type(value) is not tuple or not value or type(value[0]) is not str:
        return False
    return (value[0], len(value)) in words_and_sizes


def is_integer(value):
    return type(value) is int


def are_alike(drawing, one, other):
    """Whether both spots are of one land."""
    plain = Map(drawing.corners, drawing.pieces)
    return plain.land_around(one) == plain.land_around(other)


def judge_parting(drawing, one, other, value):
    if is_row(value, ("way", 2)):
        return is_true_way(drawing, value[1], one, other)
    return is_row(value, ("ring", 2)) and is_true_parting(drawing, value[1], one, other)


def counted(value):
    """Whether value is a tuple of pairs (anything, an integer from 1 on)."""
    if type(value) is not tuple:
        return False
    return all(type(pair) is tuple and len(pair) == 2 and is_integer(pair[1]) and pair[1] > 0 for pair in value)


def judge_cheapest(drawing, one, other, value):
    if type(value) is not tuple or len(value) != 3:
        return False
    cost, way, rings = value
    times = slow_passings(drawing, way)
    if times is None or way[0] != one or way[-1] != other or not is_integer(cost):
        return False
    prices = prices_of(drawing)
    if sum(prices[piece] * many for piece, many in times.items()) != cost:
        return False
    if not counted(rings) or sum(many for _, many in rings) != cost:
        return False
    used = [0] * len(prices)
    for ring, many in rings:
        if not is_true_parting(drawing, ring, one, other):
            return False
        for piece in slow_ring_pieces(drawing, ring):
            used[piece] += many
    return all(many <= price for many, price in zip(used, prices))


def judge_tightest(drawing, one, other, value):
    if is_row(value, ("way", 2)):
        return is_true_way(drawing, value[1], one, other)
    if not is_row(value, ("ring", 4)):
        return False
    _, price, ring, ways = value
    if not is_true_parting(drawing, ring, one, other) or not is_integer(price):
        return False
    if price != slow_ring_price(drawing, ring) or not counted(ways) or sum(many for _, many in ways) != price:
        return False
    prices = prices_of(drawing)
    used = [0] * len(prices)
    for points, many in ways:
        times = slow_passings(drawing, points)
        if times is None or points[0] != one or points[-1] != other:
            return False
        for piece in times:
            used[piece] += times[piece] * many
    return all(many <= price for many, price in zip(used, prices))


def judge_needed(drawing, one, other, name, value):
    if is_row(value, ("joined", 2)):
        return is_true_way(drawing, value[1], one, other)
    fewer = without(drawing, name)
    if is_row(value, ("needed", 2)):
        return is_true_way(fewer, value[1], one, other) and not are_alike(drawing, one, other)
    return is_row(value, ("not", 2)) and is_true_parting(fewer, value[1], one, other)


WORDS = ("", "way", "ring", "joined", "needed", "not", "Way", "RING", "way ")


def bends(value):
    """Values that differ from this one in one single place; a few may be right all the same."""
    if type(value) is tuple:
        yield from (list(value), value[:-1], value[1:], value + value[-1:], value[:1] + value, value[::-1],
                    value[1:] + value[:1], (value,), value + (None,))
        for place, part in enumerate(value):
            for bent in bends(part):
                yield value[:place] + (bent,) + value[place + 1:]
    elif type(value) is int:
        yield from (value + 1, value - 1, -value, 0, 10 ** 40, str(value), None, (value,), [value])
        if value in (0, 1):
            yield bool(value)
    elif type(value) is str:
        yield from WORDS + (value + "s", list(value), 0, None, (value,))


def with_midpoints(points):
    """The same bent line with a further point on each stretch."""
    told = [points[0]]
    for p, q in zip(points, points[1:]):
        told += [between(p, q, (2, 7)), q]
    return tuple(told)


def begun_elsewhere(ring, at):
    return ring[at:] + ring[:at]


def chain_between(rows, one, other):
    """The rows of the chain between two numbers of spots, in rows that join them just one way."""
    ahead = [(one, ())]
    for at, chain in ahead:
        if at == other:
            return chain
        for row in rows:
            if at in row[:2] and row not in chain:
                ahead.append((row[0] + row[1] - at, chain + (row,)))
    return None


def judge_tree(drawing, spots, value):
    """By the words of section 15."""
    if type(value) is not tuple or len(value) != len(spots) - 1:
        return False
    for row in value:
        if type(row) is not tuple or len(row) != 3 or not is_integer(row[0]) or not is_integer(row[1]):
            return False
        if not 0 <= row[0] < row[1] < len(spots):
            return False
    links = [(place, row[0], row[1]) for place, row in enumerate(value)]
    if reached(links, 0, len(spots)) != set(range(len(spots))):
        return False
    for place, (i, j, told) in enumerate(value):
        if not judge_tightest(drawing, spots[i], spots[j], told):
            return False
        if told[0] == "ring":
            within = {at for at, spot in enumerate(spots) if slow_ring_has(drawing, told[2], spot)}
            rest = links[:place] + links[place + 1:]
            if within not in (reached(rest, i, len(spots)), reached(rest, j, len(spots))):
                return False
    return True


def reached(links, first, many):
    """The numbers, of so many, that hang together with the first one over these links (anything, i, j)."""
    found = {first}
    for _ in range(many):
        for _, i, j in links:
            if i in found or j in found:
                found |= {i, j}
    return found
