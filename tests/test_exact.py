"""Fractions within the program: sums, and what lies between two of them."""

import random
import unittest
from fractions import Fraction

from ringsorways.exact import added, ascending, halfway, is_less, least_terms, simplest_between, some_between
from tests.support import Exact


class TestSums(Exact):
    def test_against_fractions(self):
        dice = random.Random(3)
        for _ in range(300):
            a, b = [(dice.randint(-90, 90), dice.randint(1, 40)) for _ in range(2)]
            one, other = Fraction(*a), Fraction(*b)
            for told, expected in ((added(a, b), one + other), (halfway(a, b), (one + other) / 2),
                                   (least_terms(*a), one)):
                self.tells(told, (expected.numerator, expected.denominator))
            self.tells(is_less(a, b), one < other)


class TestAscending(Exact):
    def test_by_their_worth_and_none_twice(self):
        dice = random.Random(5)
        for widest in (1, 3, 9, 60, 10 ** 9):
            shares = [Fraction(dice.randint(-2 * widest, 2 * widest), dice.randint(1, widest)) for _ in range(60)]
            shares += shares[::3]
            pairs = [(share.numerator, share.denominator) for share in shares]
            self.tells(ascending(pairs), [(share.numerator, share.denominator) for share in sorted(set(shares))])
        self.tells([ascending([]), ascending([(1, 2)])], [[], [(1, 2)]])
        # Neighbours that lie as near to one another as they can.
        self.tells(ascending([(10 ** 9, 10 ** 9 + 1), (10 ** 9 - 1, 10 ** 9), (1, 1)]),
                   [(10 ** 9 - 1, 10 ** 9), (10 ** 9, 10 ** 9 + 1), (1, 1)])


class TestBetween(Exact):
    def test_it_lies_between(self):
        dice = random.Random(4)
        for _ in range(500):
            widest = dice.choice((3, 50, 10 ** 6, 10 ** 30))
            pair = [(dice.randint(-widest, widest), dice.randint(1, widest)) for _ in range(2)]
            low, high = sorted(pair, key=lambda share: Fraction(*share))
            if Fraction(*low) < Fraction(*high):
                for told in (some_between(low, high), simplest_between(low, high)):
                    self.assertTrue(Fraction(*low) < Fraction(*told) < Fraction(*high), (low, high, told))
                    self.assertEqual(Fraction(*told).denominator, told[1])

    def test_the_least_bottom(self):
        shares = sorted({Fraction(top, bottom) for bottom in range(1, 9) for top in range(-bottom, 2 * bottom)})
        for low in shares[::3]:
            for high in shares:
                if low < high:
                    told = simplest_between((low.numerator, low.denominator), (high.numerator, high.denominator))
                    for bottom in range(1, told[1]):
                        above = int(low * bottom // 1) + 1
                        self.assertGreaterEqual(Fraction(above, bottom), high)

    def test_without_bounds(self):
        self.tells(some_between(None, None), (0, 1))
        self.tells([some_between(None, (7, 2)), some_between(None, (3, 1)), some_between(None, (-1, 2))],
                   [(3, 1), (2, 1), (-1, 1)])
        self.tells([some_between((7, 2), None), some_between((3, 1), None), some_between((-1, 2), None)],
                   [(4, 1), (4, 1), (0, 1)])


if __name__ == "__main__":
    unittest.main()
