"""Sums over fractions (top, bottom), bottom above 0, that are known to be such.

Those that are told are in least terms; those handed in need not be.
"""

from math import gcd


def least_terms(top, bottom):
    """The fraction of this worth in least terms."""
    common = gcd(top, bottom)
    return (top // common, bottom // common)


def added(a, b):
    """The sum of two fractions."""
    return least_terms(a[0] * b[1] + b[0] * a[1], a[1] * b[1])


def is_less(a, b):
    """Whether the fraction a is less than b."""
    return a[0] * b[1] < b[0] * a[1]


def halfway(a, b):
    """The fraction in the midst of both."""
    return least_terms(a[0] * b[1] + b[0] * a[1], 2 * a[1] * b[1])


def ascending(fractions):
    """The list of these fractions, all in least terms, by their worth, none twice."""
    widest = max([bottom for _, bottom in fractions], default=1)
    # Unlike ones are at least 1 / scale apart: so no two fall together when they are rounded down to such steps.
    scale = widest * widest
    unlike = {fraction: True for fraction in fractions}
    return sorted(unlike, key=lambda pair: pair[0] * scale // pair[1])


def some_between(low, high):
    """Any fraction strictly between low and high; None stands for a bound that is not there."""
    if low is None and high is None:
        return (0, 1)
    if low is None:
        return ((high[0] - 1) // high[1], 1)
    if high is None:
        return (low[0] // low[1] + 1, 1)
    middle = (low[0] * high[1] + high[0] * low[1]) // (2 * low[1] * high[1])
    if middle * low[1] > low[0]:
        return (middle, 1)
    return simplest_between(low, high)


def simplest_between(low, high):
    """The fraction strictly between low and high that has the least bottom."""
    below = low[0] // low[1]
    if (below + 1) * high[1] < high[0]:
        return (below + 1, 1)
    # No integer lies between: so both are looked at from the one below, and turned over.
    over_low, over_high = low[0] - below * low[1], high[0] - below * high[1]
    if over_low == 0:
        bottom, top = high[1] // over_high + 1, 1
    else:
        bottom, top = simplest_between((high[1], over_high), (low[1], over_low))
    return (below * bottom + top, bottom)
