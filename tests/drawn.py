"""Drawn drawings of many kinds, as lists of fences, and spots in them: the same ones for the same seed."""

import random
from fractions import Fraction

from ringsorways.drawings import Drawing
from tests.ruler import is_free, is_true_spot
from tests.support import ends_of, name_number, place, point_of, random_fences, slow_meet, text_of


def priced_anew(rows, seed, highest=9):
    """Fences with names and prices of their own, for rows ((x, y), (u, v))."""
    dice = random.Random(seed)
    return [(name_number(number), a, b, dice.randint(1, highest)) for number, (a, b) in enumerate(rows)]


def standing(rows):
    """Those of the rows that can stand together, each with those ahead of it."""
    found = []
    for a, b in rows:
        ends = ((a[0], a[1], 1), (b[0], b[1], 1))
        if a != b and not any(slow_meet(*ends, *ends_of(("x",) + one)) == ("along",) for one in found):
            found.append((a, b))
    return found


def net(across, upright, step=3):
    """Fences across and upright ones, each of which crosses all others."""
    wide, high = step * (upright + 1), step * (across + 1)
    rows = [((0, step * (k + 1)), (wide, step * (k + 1))) for k in range(across)]
    return rows + [((step * (k + 1), 0), (step * (k + 1), high)) for k in range(upright)]


def box(low, high):
    """The four sides of a square."""
    tips = ((low, low), (high, low), (high, high), (low, high))
    return [(tips[k], tips[(k + 1) % 4]) for k in range(4)]


def boxes(depth):
    """Boxes within one another."""
    return [row for k in range(depth) for row in box(-3 - 2 * k, 3 + 2 * k)]


def star(many):
    """Fences through one point, in a box."""
    return box(-6, 6) + [((-8, many // 2 - k), (8, k - many // 2)) for k in range(many)]


def comb(teeth):
    """A back on which teeth hang, and one fence across the teeth."""
    rows = [((0, 0), (2 * teeth, 0))] + [((2 * k + 1, 0), (2 * k + 1, 5)) for k in range(teeth)]
    return rows + [((1, 3), (2 * teeth - 1, 4))]


def hung(seed, many, farthest=5):
    """Fences that begin at ends and in the midst of others."""
    dice = random.Random(seed)
    rows = [((-farthest, 0), (farthest, 0))]
    while len(rows) < many:
        (x, y), (u, v) = dice.choice(rows)
        spots = [(x, y), (u, v)] + ([((x + u) // 2, (y + v) // 2)] if (x + u) % 2 == 0 and (y + v) % 2 == 0 else [])
        rows.append((dice.choice(spots), (dice.randint(-farthest, farthest), dice.randint(-farthest, farthest))))
    return standing(rows)


def narrow(many):
    """Long fences that leave narrow places between them."""
    rows = [((-1000, k), (1000, k + 1)) for k in range(many)]
    return rows + [((-1000, many), (1000, 0)), ((-1000, -1), (-999, 1000)), ((999, -1), (1000, 1000))]


def crossing(seed, many, farthest=1000):
    """Long fences, most of which cross."""
    dice = random.Random(seed)
    rows = []
    for k in range(many):
        one, other = dice.randint(-farthest, farthest), dice.randint(-farthest, farthest)
        rows.append(((-farthest, one), (farthest, other)) if k % 2 else ((one, -farthest), (other, farthest)))
    return standing(rows)


def crowded(seed, many, farthest):
    """Many fences between few points."""
    return [(a, b) for _, a, b, _ in random_fences(seed, many, farthest)]


def kinds(seed):
    """(name, fences) for small drawings of every kind."""
    rows = {
        "none": [],
        "one": [((0, 0), (4, 2))],
        "net": net(1 + seed % 3, 1 + seed % 4),
        "boxes": boxes(1 + seed % 3),
        "star": star(2 + seed % 5),
        "comb": comb(2 + seed % 3),
        "hung": hung(seed, 7 + seed % 5, 4),
        "narrow": narrow(1 + seed % 3),
        "crossing": crossing(seed, 4 + seed % 4, 10),
        "crowded": crowded(seed, 6 + seed % 8, 2 + seed % 3),
        "open": crowded(seed + 1000, 5, 12),
        "mixed": standing(box(-6, 6) + crowded(seed, 8, 5) + box(9, 11)),
    }
    return [(name, priced_anew(found, seed)) for name, found in rows.items()]


def great(seed):
    """(name, fences, how far its spots lie) for drawings of up to 40 fences."""
    rows = {
        "net": (net(6, 7), 20),
        "boxes": (boxes(10), 22),
        "star": (star(36), 8),
        "comb": (comb(30), 20),
        "hung": (hung(seed, 38, 12), 12),
        "narrow": (narrow(20), 30),
        "crossing": (crossing(seed, 16, 1000), 600),
        "crowded": (crowded(seed, 40, 6), 6),
        "mixed": (standing(boxes(4) + crowded(seed, 20, 12)), 10),
    }
    return [(name, priced_anew(found, seed, 99), far) for name, (found, far) in rows.items()]


def drawing_of(fences):
    return Drawing(text_of(fences))


def random_spots(fences, seed, many, farthest=12, bottoms=(1, 2, 3, 7, 1000)):
    """Some spots of a drawing of these fences."""
    dice = random.Random(seed)
    found = []
    while len(found) < many:
        bottom = dice.choice(bottoms)
        x, y = [Fraction(dice.randint(-farthest * bottom, farthest * bottom), bottom) for _ in range(2)]
        if is_free(fences, point_of(x, y)):
            found.append(point_of(x, y))
    return found


def spots_beside(fences, corners):
    """Spots that lie just beside corners, and beside the midst of fences."""
    marks = [place(corner) for corner in corners]
    marks += [(Fraction(a[0] + b[0], 2), Fraction(a[1] + b[1], 2)) for _, a, b, _ in fences]
    found = []
    for x, y in marks:
        for across in (-1, 0, 1):
            for upward in (-1, 0, 1):
                spot = point_of(Fraction(round(x * 1000) + across, 1000), Fraction(round(y * 1000) + upward, 1000))
                if is_true_spot(fences, spot) and spot not in found:
                    found.append(spot)
    return found


def spread(spots, told, seed, many):
    """Pairs of spots: of unlike lands, where told has the land of each, of the same one, and a spot with itself."""
    dice = random.Random(seed)
    pairs = [(spots[0], spots[0])]
    unlike = [(a, b) for a in range(len(spots)) for b in range(len(spots)) if told[a] != told[b]]
    alike = [(a, b) for a in range(len(spots)) for b in range(len(spots)) if told[a] == told[b] and a != b]
    for found, share in ((unlike, many), (alike, many // 3 + 1)):
        pairs += [(spots[a], spots[b]) for a, b in dice.sample(found, min(share, len(found)))]
    return pairs


def otherwise(fences, seed):
    """The same stretches in another sequence, told from their other ends, called and priced otherwise."""
    dice = random.Random(seed)
    rows = [(b, a) if dice.random() < 0.6 else (a, b) for _, a, b, _ in fences]
    dice.shuffle(rows)
    return [(name_number(70 - number), a, b, dice.randint(1, 99)) for number, (a, b) in enumerate(rows)]


def in_other_sequence(fences, seed):
    """The same fences, priced as they are, in another sequence, called otherwise, from their other ends."""
    dice = random.Random(seed)
    rows = [(b, a, price) if dice.random() < 0.6 else (a, b, price) for _, a, b, price in fences]
    dice.shuffle(rows)
    return [(name_number(70 - number), a, b, price) for number, (a, b, price) in enumerate(rows)]
