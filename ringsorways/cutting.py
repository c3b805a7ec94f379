"""How stretches cut one another into pieces.

The ends are points of any bottom, as fences are told that have been led part of
their way, too. No two stretches have more than one point in common.
"""

from ringsorways.geometry import in_sequence, meeting


def cut(stretches):
    """(corners, rows): the corners as points stand, and for each stretch the numbers of those on it.

    A row goes from the first end of its stretch to the second one.
    """
    marked = corners_by_stretch(stretches)
    every = {corner: True for found in marked for corner in found}
    corners = tuple(in_sequence(list(every)))
    numbers = {corner: number for number, corner in enumerate(corners)}
    rows = []
    for stretch, on_it in zip(stretches, marked):
        row = sorted([numbers[corner] for corner in on_it])
        # Along a straight line points stand either as they follow one another, or the other way about.
        rows.append(row if row[0] == numbers[stretch[0]] else row[::-1])
    return corners, rows


def links_of(rows):
    """The pieces of all stretches, each told by the numbers of its two corners; rows come from cut."""
    return [(row[k], row[k + 1]) for row in rows for k in range(len(row) - 1)]


def corners_by_stretch(stretches):
    """For each stretch a dict that has the corners on it as its keys."""
    marked = [{a: True, b: True} for a, b in stretches]
    for i in range(len(stretches)):
        for j in range(i):
            found = meeting(stretches[i][0], stretches[i][1], stretches[j][0], stretches[j][1])
            if found[0] in ("touch", "cross"):
                marked[i][found[1]] = True
                marked[j][found[1]] = True
    return marked
