"""What plain values must be to count as integers, fractions, points, names and prices.

These functions take any value, and answer; they raise nothing.
"""

from math import gcd

LETTERS = "abcdefghijklmnopqrstuvwxyz"
LONGEST_NAME = 6
HIGHEST_PRICE = 99
FARTHEST = 1000


def is_whole_number(value):
    """Whether value is an int that is no bool."""
    return isinstance(value, int) and not isinstance(value, bool)


def is_number_below(value, many):
    """Whether value is an integer from 0 to one less than many."""
    return is_whole_number(value) and 0 <= value < many


def are_integers(value, many):
    """Whether value is a tuple of just so many integers."""
    return isinstance(value, tuple) and len(value) == many and all([is_whole_number(part) for part in value])


def is_fraction(value):
    """Whether value is (top, bottom) in least terms."""
    return are_integers(value, 2) and value[1] >= 1 and gcd(value[0], value[1]) == 1


def is_share(value):
    """Whether value is a fraction from 0 to 1."""
    return is_fraction(value) and 0 <= value[0] <= value[1]


def is_point(value):
    """Whether value is (x, y, bottom) in least terms."""
    return are_integers(value, 3) and value[2] >= 1 and gcd(value[0], value[1], value[2]) == 1


def is_whole_point(value):
    """Whether value is a point at which a fence may end."""
    return is_point(value) and value[2] == 1 and max(abs(value[0]), abs(value[1])) <= FARTHEST


def is_price(value):
    """Whether value is what a fence may cost."""
    return is_whole_number(value) and 1 <= value <= HIGHEST_PRICE


def is_name(word):
    """Whether this string may be the name of a fence."""
    return 1 <= len(word) <= LONGEST_NAME and all([letter in LETTERS for letter in word])


def integer_of(word):
    """The integer that stands in this word as Python writes it; None if none does."""
    try:
        number = int(word)
    except ValueError:
        return None
    # int also reads "+1", "01", "1_0" and blanks around: none of these is how Python writes it.
    return number if str(number) == word else None


def is_row(value, word, many):
    """Whether value is a tuple of just so many members, the first of them being this word."""
    return isinstance(value, tuple) and len(value) == many and value[0] == word


def are_counted(value):
    """Whether value is a tuple of pairs (anything, many), many being an integer from 1 on."""
    return isinstance(value, tuple) and all([is_counted(pair) for pair in value])


def is_counted(pair):
    """Whether this is a pair (anything, many), many being an integer from 1 on."""
    return isinstance(pair, tuple) and len(pair) == 2 and is_whole_number(pair[1]) and pair[1] >= 1
