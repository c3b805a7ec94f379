"""Section 2: what counts as an integer, a fraction, a point, a whole point, a price, a name."""

import unittest

from ringsorways.values import (
    are_counted, integer_of, is_fraction, is_name, is_number_below, is_point, is_price, is_row, is_share,
    is_whole_number, is_whole_point,
)
from tests.support import ANY_VALUES, WRONG_POINTS, Exact


class TestValues(Exact):
    def only(self, function, right, wrong):
        """The function tells True of the first ones, False of the others."""
        for value in right:
            self.tells((value, function(value)), (value, True))
        for value in wrong:
            self.tells((value, function(value)), (value, False))

    def test_integers(self):
        self.only(is_whole_number, (0, -1, 7, 10 ** 40), (True, False, None, "1", (1,), [1], {1: 1}, 1.0))

    def test_numbers_below(self):
        for value, right in ((0, True), (4, True), (5, False), (-1, False), (True, False), ("0", False), (None, False)):
            self.tells((value, is_number_below(value, 5)), (value, right))
        self.tells(is_number_below(0, 0), False)

    def test_rows(self):
        self.tells([is_row(("way", 1), "way", 2), is_row(("way",), "way", 1)], [True, True])
        for value in ANY_VALUES + (["way", 1], ("way",), ("way", 1, 2), ("ring", 1), (("way",), 1), (["way"], 1)):
            self.tells((value, is_row(value, "way", 2)), (value, False))

    def test_counted(self):
        self.only(are_counted, ((), ((None, 1),), (("a", 7), ([], 10 ** 40))), (
            [], ([None, 1],), ((None, 0),), ((None, -1),), ((None, True),), ((None, "1"),), ((None,),), ((None, 1, 1),),
            (None,), ((None, 1), None), 0, None, "", {}))

    def test_fractions(self):
        wrong = (
            (0, 2), (2, 4), (-2, 4), (1, 0), (0, 0), (1, -1), (0, -1), (True, 1), (1, True), [1, 2], (1, 2, 1), (1,),
        )
        self.only(is_fraction, ((0, 1), (1, 1), (-3, 1), (7, 5), (-7, 5)), wrong + ANY_VALUES)

    def test_shares(self):
        self.only(is_share, ((0, 1), (1, 1), (3, 7)), ((8, 7), (-1, 7), (2, 1), (2, 4), (0, 2), [0, 1]) + ANY_VALUES)

    def test_points(self):
        right = ((0, 0, 1), (-5, 7, 1), (1, 2, 2), (2, 4, 3), (0, 1, 2), (10 ** 30, 1, 10 ** 30))
        self.only(is_point, right, WRONG_POINTS)

    def test_whole_points(self):
        right = ((0, 0, 1), (1000, -1000, 1), (-1000, 1000, 1))
        wrong = ((1001, 0, 1), (0, 1001, 1), (-1001, 0, 1), (0, -1001, 1), (1, 1, 2), (0, 1, 3))
        self.only(is_whole_point, right, wrong + WRONG_POINTS)

    def test_prices(self):
        self.only(is_price, (1, 2, 99), (0, -1, 100, True, False, None, "1", (1,), [1]))

    def test_names(self):
        self.only(is_name, ("a", "z", "abcdef"), ("", "abcdefg", "A", "a1", "a b", "a\n", "-"))

    def test_integers_in_words(self):
        for number in (0, 1, -1, 10, -10, 99, 10 ** 11, -10 ** 11):
            self.tells(integer_of(str(number)), number)
        for word in ("", "-", "+1", "01", "-0", "00", "1.0", "1_0", " 1", "1 ", "1\n", "--1", "one", "0x1", "1e3"):
            self.tells(integer_of(word), None)


if __name__ == "__main__":
    unittest.main()
