"""Whether any ring of some pieces parts two spots, for any corners and any pieces between them."""

from ringsorways.geometry import is_crossed


def is_any_parting(corners, links, one, other):
    """Whether some ring of these pieces has just one of both spots inside; links are the two corners of each piece.

    A piece is odd if just one of the half lines from both spots crosses it. A ring parts the spots if it has an
    odd number of odd pieces. None does so exactly if all corners can be told to be of two kinds, such that the
    ends of odd pieces, and of no others, are of unlike kinds.
    """
    beside = [[] for _ in corners]
    for i, j in links:
        stretch = (corners[i], corners[j])
        is_odd = is_crossed(stretch, one) != is_crossed(stretch, other)
        beside[i].append((j, is_odd))
        beside[j].append((i, is_odd))
    return not are_two_kinds(beside)


def are_two_kinds(beside):
    """Whether corners can be of two kinds so; beside has for each corner (other corner, is_odd) of its pieces."""
    kinds = [None] * len(beside)
    for first in range(len(beside)):
        ahead = []
        if kinds[first] is None:
            kinds[first] = False
            ahead.append(first)
        while ahead:
            corner = ahead.pop()
            for beyond, is_odd in beside[corner]:
                kind = kinds[corner] != is_odd
                if kinds[beyond] is None:
                    kinds[beyond] = kind
                    ahead.append(beyond)
                elif kinds[beyond] != kind:
                    return False
    return True
