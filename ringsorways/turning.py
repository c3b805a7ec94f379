"""Half pieces, and how they follow one another around lands (section 6).

Pieces are known by links: the numbers (i, j) of the two corners of each.
"""

from math import gcd


def halves_of(links):
    """For each half piece (i, j): it goes from corner i to corner j."""
    halves = []
    for i, j in links:
        halves.append((i, j))
        halves.append((j, i))
    return halves


def nexts_of(corners, halves):
    """For each half piece the number of its next one."""
    follow = [0] * len(halves)
    for row in leaving_rows(corners, halves):
        for place, half in enumerate(row):
            # Rows go counterclockwise, so clockwise from this half piece on comes the one ahead of it.
            # Its other half is what comes to this corner.
            follow[half ^ 1] = row[place - 1]
    return follow


def leaving_rows(corners, halves):
    """For each corner the half pieces that leave it, counterclockwise."""
    rows = [[] for _ in corners]
    for number, ends in enumerate(halves):
        rows[ends[0]].append(number)
    return [counterclockwise(row, [direction(corners, halves[half]) for half in row]) for row in rows]


def counterclockwise(row, directions):
    """The half pieces of the row, sorted by these unlike directions of theirs."""
    widest = max([abs(dx) for dx, _ in directions], default=0)
    # Unlike slopes are at least 1 / scale apart: so no two fall together when they are rounded down.
    scale = widest * widest
    keys = [turn_key(dx, dy, scale) for dx, dy in directions]
    return [row[place] for place in sorted(range(len(row)), key=lambda at: keys[at])]


def turn_key(dx, dy, scale):
    """What grows when a direction turns counterclockwise, from straight down on."""
    if dx == 0:
        return (1, 0) if dy > 0 else (3, 0)
    return (0 if dx > 0 else 2, dy * scale // dx)


def direction(corners, ends):
    """The direction (dx, dy) of the half piece with these ends, in least integers."""
    (x, y, bottom), (u, v, other) = corners[ends[0]], corners[ends[1]]
    dx, dy = u * bottom - x * other, v * bottom - y * other
    common = gcd(dx, dy)
    return (dx // common, dy // common)


def rounds_along(follow):
    """(rounds, round_of): all rounds, and for each half piece the number of its round."""
    rows = []
    round_of = [None] * len(follow)
    for first in range(len(follow)):
        if round_of[first] is None:
            row = []
            half = first
            while round_of[half] is None:
                round_of[half] = len(rows)
                row.append(half)
                half = follow[half]
            rows.append(tuple(row))
    return tuple(rows), round_of
