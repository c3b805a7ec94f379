"""Section 10: the cheapest ring, and the ways that show it to be the cheapest."""

import unittest

from ringsorways import tightest as module
from ringsorways.drawings import Drawing, led_over, priced
from ringsorways.errors import BadSpot
from ringsorways.parting import ring_price, way_price
from ringsorways.spots import land_of
from ringsorways.tightest import shows_tightest, tightest
from tests.drawn import drawing_of, great, in_other_sequence, kinds, net, priced_anew, random_spots, spread
from tests.judge import begun_elsewhere, bends, judge_tightest, with_midpoints
from tests.ruler import all_rings, is_true_parting, mirrored, slow_ring_price, turned
from tests.support import ANY_VALUES, Exact, WRONG_POINTS

THREE = "drawing\nfence a 0 0 6 0 2\nfence b 6 0 0 6 3\nfence c 0 6 0 0 4"
WITHIN, OUTSIDE = (1, 1, 1), (10, 10, 1)
SOUTH = ((1, 1, 1), (1, -1, 1), (10, -1, 1), (10, 10, 1))
EAST = ((1, 1, 1), (10, 10, 1))
WEST = ((1, 1, 1), (-1, 1, 1), (-1, 10, 1), (10, 10, 1))
WAYS = ((SOUTH, 2), (EAST, 3), (WEST, 4))
PAPER = ("ring", 9, (2, 0, 1), WAYS)


class TestExamples(Exact):
    def test_three(self):
        three = Drawing(THREE)
        word, price, ring, ways = tightest(three, WITHIN, OUTSIDE)
        self.tells([word, price, sorted(ring), sum([many for points, many in ways]), ring_price(three, ring)],
                   ["ring", 9, [0, 1, 2], 9, 9])
        self.tells([way_price(three, points) for points in (SOUTH, EAST, WEST)], [2, 3, 4])
        values = (PAPER, PAPER[:3] + (((SOUTH, 3), (EAST, 3), (WEST, 3)),), ("way", EAST))
        self.tells([shows_tightest(three, WITHIN, OUTSIDE, value) for value in values], [True, False, False])

    def test_two(self):
        two = Drawing(THREE + "\nfence d 3 0 3 -5 1")
        self.tells([tightest(two, WITHIN, OUTSIDE)[1], tightest(two, WITHIN, (1, 2, 1))[0]], [11, "way"])


class TestInterface(Exact):
    def test_the_functions_are_defined_in_the_file(self):
        for function in (tightest, shows_tightest):
            self.assertEqual(function.__module__, "ringsorways.tightest")
            self.assertIs(getattr(module, function.__name__), function)

    def test_arguments_by_name_and_equal_calls(self):
        three = Drawing(THREE)
        told = tightest(other=OUTSIDE, one=WITHIN, drawing=three)
        self.tells(told, tightest(Drawing(THREE), WITHIN, OUTSIDE))
        self.tells(shows_tightest(value=told, other=OUTSIDE, one=WITHIN, drawing=three), True)
        self.tells([three.text, three.pieces], [THREE, Drawing(THREE).pieces])

    def test_errors(self):
        three = Drawing(THREE)
        worse = (2001, 0, 1)
        for value in [value for value in WRONG_POINTS] + [(0, 0, 1), (1, 0, 1), worse, (1, 1, 1001), (3, 3, 1)]:
            with self.subTest(value):
                for function, more in ((tightest, ()), (shows_tightest, (None,)), (shows_tightest, (PAPER,))):
                    self.refuses_the_very(BadSpot, value, function, three, value, OUTSIDE, *more)
                    self.refuses_the_very(BadSpot, value, function, three, OUTSIDE, value, *more)
                    self.refuses_the_very(BadSpot, value, function, three, value, worse, *more)
                    self.refuses_the_very(BadSpot, worse, function, three, worse, value, *more)


class Rings(Exact):
    def holds(self, drawing, one, other, price=None):
        """What is told is right, and shown; its price is this one; returned is the price, None for a way."""
        told = tightest(drawing, one, other)
        self.assertTrue(judge_tightest(drawing, one, other, told), told)
        self.tells(shows_tightest(drawing, one, other, told), True)
        alike = land_of(drawing, one) == land_of(drawing, other)
        self.tells(told[0], "way" if alike else "ring")
        if alike:
            self.tells(len(told), 2)
            return None
        self.tells(shows_tightest(drawing, other, one, told), False)
        self.tells(ring_price(drawing, told[2]), told[1])
        if price is not None:
            self.tells(told[1], price)
        return told[1]

    def pairs(self, seed, many=4, share=6):
        for name, fences in kinds(seed):
            drawing = drawing_of(fences)
            spots = random_spots(fences, seed + 5, share, 7)
            told = [land_of(drawing, spot) for spot in spots]
            for one, other in spread(spots, told, seed, many):
                yield name, fences, drawing, one, other

    def least(self, drawing, one, other):
        """The least price of all rings that part the spots, by going through all of them."""
        found = [ring for ring in all_rings(drawing) if is_true_parting(drawing, ring, one, other)]
        return min([slow_ring_price(drawing, ring) for ring in found], default=None)


class TestDrawn(Rings):
    def test_against_all_rings_of_small_drawings(self):
        counts = [0, 0]
        for seed in range(14):
            for name, fences, drawing, one, other in self.pairs(seed, 3):
                if len(drawing.pieces) <= 20:
                    with self.subTest((name, seed, one, other)):
                        price = self.least(drawing, one, other)
                        self.tells(self.holds(drawing, one, other), price)
                        counts[price is None] += 1
        self.assertGreater(min(counts), 50)

    def test_more_small_ones(self):
        for seed in range(14, 22):
            for name, fences, drawing, one, other in self.pairs(seed):
                with self.subTest((name, seed, one, other)):
                    price = self.holds(drawing, one, other)
                    self.tells(self.holds(drawing, other, one), price)

    def test_great_ones(self):
        for name, fences, far in great(8):
            drawing = drawing_of(fences)
            spots = random_spots(fences, 3, 12, far)
            told = [land_of(drawing, spot) for spot in spots]
            for one, other in spread(spots, told, 2, 3):
                with self.subTest((name, one, other)):
                    self.holds(drawing, one, other)

    def test_a_net(self):
        fences = priced_anew(net(3, 3), 1, 1)
        drawing = drawing_of(fences)
        # All pieces cost 1, so a ring costs as much as it is long; the four lands within are single squares.
        self.holds(drawing, (4, 4, 1), (7, 7, 1), 4)
        self.holds(drawing, (4, 4, 1), (1, 1, 1), 4)
        wide = drawing_of(priced_anew(net(5, 5), 1, 1))
        self.holds(wide, (4, 4, 1), (100, 100, 1), 4)


class TestOtherwise(Rings):
    def test_turned_mirrored_and_in_another_sequence(self):
        for seed in range(6):
            for name, fences, drawing, one, other in self.pairs(seed, 2):
                with self.subTest((name, seed, one, other)):
                    price = self.holds(drawing, one, other)
                    self.tells(self.holds(drawing_of(in_other_sequence(fences, seed)), one, other), price)
                    self.tells(self.holds(led_over(drawing, "turned"), turned(one), turned(other)), price)
                    self.tells(self.holds(led_over(drawing, "mirrored"), mirrored(one), mirrored(other)), price)

    def test_prices_made_greater(self):
        for seed in range(4):
            for name, fences, drawing, one, other in self.pairs(seed, 2):
                price = self.holds(drawing, one, other)
                if price is not None:
                    with self.subTest((name, seed, one, other)):
                        greater = drawing_of([(called, a, b, 9 * cost) for called, a, b, cost in fences])
                        self.tells(self.holds(greater, one, other), 9 * price)
                        for called, _, _, cost in fences[:4]:
                            self.assertGreaterEqual(self.holds(priced(drawing, called, cost + 1), one, other), price)

    def test_a_fence_that_hangs_on_the_midst(self):
        three = Drawing(THREE)
        self.holds(three, WITHIN, OUTSIDE, 9)
        self.holds(Drawing(THREE + "\nfence d 3 0 3 -5 1"), WITHIN, OUTSIDE, 11)
        self.holds(Drawing(THREE + "\nfence d 3 0 3 -5 1\nfence e 4 0 4 1 1"), WITHIN, OUTSIDE, 13)
        # One that only reaches the corner cuts nothing.
        self.holds(Drawing(THREE + "\nfence d 6 0 9 0 1"), WITHIN, OUTSIDE, 9)


class TestShows(Exact):
    def shown(self, drawing, one, other, value):
        """It tells what the tests' own judgement tells."""
        told = judge_tightest(drawing, one, other, value)
        self.tells(shows_tightest(drawing, one, other, value), told)
        return told

    def test_values_of_any_kind(self):
        ring = (2, 0, 1)
        for value in ANY_VALUES + (("ring",), ("ring", 9), PAPER[:3], PAPER + (None,), list(PAPER), ("way", ()),
                                   ("ring", 9, ring, None), ("ring", 9, ring, ()), ("ring", 0, ring, ()),
                                   ("ring", 9, ring, {}), ("ring", 9, ring, ((),)), ("way", 9, ring, WAYS)):
            self.tells(shows_tightest(Drawing(THREE), WITHIN, OUTSIDE, value), False)
            self.tells(shows_tightest(Drawing("drawing"), WITHIN, OUTSIDE, value), False)

    def test_right_ones_that_the_program_did_not_make(self):
        three = Drawing(THREE)
        long = tuple((with_midpoints(with_midpoints(points)), many) for points, many in WAYS)
        split = ((SOUTH, 1), (EAST, 3), (SOUTH, 1), (WEST, 1), (with_midpoints(WEST), 3))
        for ways in (WAYS, WAYS[::-1], long, split):
            for at in range(3):
                for ring in (begun_elsewhere((0, 1, 2), at), begun_elsewhere((2, 1, 0), at)):
                    self.assertTrue(self.shown(three, WITHIN, OUTSIDE, ("ring", 9, ring, ways)))
                    back = tuple((points[::-1], many) for points, many in ways)
                    self.assertTrue(self.shown(three, OUTSIDE, WITHIN, ("ring", 9, ring, back)))
                    self.assertFalse(self.shown(three, OUTSIDE, WITHIN, ("ring", 9, ring, ways)))
        way = (WITHIN, (1, 3, 1), (1, 2, 1))
        self.assertTrue(self.shown(three, WITHIN, (1, 2, 1), ("way", way)))
        self.assertTrue(self.shown(three, WITHIN, WITHIN, ("way", (WITHIN,))))

    def test_wrong_numbers(self):
        three = Drawing(THREE)
        for ways in (((SOUTH, 3), (EAST, 3), (WEST, 3)), ((SOUTH, 2), (EAST, 3), (WEST, 3)),
                     ((SOUTH, 2), (EAST, 3), (WEST, 4), (WEST, 0)), ((SOUTH, 3), (EAST, 3), (WEST, 4), (SOUTH, -1)),
                     ((SOUTH, 10 ** 40), (SOUTH, 2 - 10 ** 40), (EAST, 3), (WEST, 4)),
                     ((SOUTH, 2), (EAST, 3), (WEST, "4")), ((SOUTH, 2), (EAST, 3), [WEST, 4]),
                     ((SOUTH, 2), (EAST, 3), (WEST, 4, 0)), ((SOUTH, True), (SOUTH, 1), (EAST, 3), (WEST, 4))):
            self.assertFalse(self.shown(three, WITHIN, OUTSIDE, ("ring", 9, (2, 0, 1), ways)))
        for price in (8, 10, -9, 0, "9", None, (9,), 10 ** 40):
            self.assertFalse(self.shown(three, WITHIN, OUTSIDE, ("ring", price, (2, 0, 1), WAYS)))

    def test_a_way_that_goes_through_a_piece_several_times(self):
        three = Drawing(THREE)
        # It goes out, in and out again through a, whose price is 2.
        thrice = (WITHIN, (1, -1, 1), (2, 1, 1), (2, -1, 1), (10, -1, 1), OUTSIDE)
        self.tells(way_price(three, thrice), 6)
        ways = ((thrice, 2), (EAST, 3), (WEST, 4))
        self.assertFalse(self.shown(three, WITHIN, OUTSIDE, ("ring", 9, (2, 0, 1), ways)))
        dear = Drawing(THREE.replace("6 0 2", "6 0 4"))
        ways = ((thrice, 1), (SOUTH, 1), (EAST, 3), (WEST, 4))
        self.assertFalse(self.shown(dear, WITHIN, OUTSIDE, ("ring", 11, (2, 0, 1), ways)))
        self.assertFalse(self.shown(dear, WITHIN, OUTSIDE, ("ring", 9, (2, 0, 1), ways)))
        ways = ((SOUTH, 4), (EAST, 3), (WEST, 4))
        self.assertTrue(self.shown(dear, WITHIN, OUTSIDE, ("ring", 11, (2, 0, 1), ways)))

    def test_a_dear_ring(self):
        # A small triangle within a greater one that is cheaper: each ring parts, just the cheap one is right.
        text = THREE + "\nfence d 2 1 3 1 50\nfence e 3 1 2 2 50\nfence f 2 2 2 1 50"
        drawing = Drawing(text)
        one = (9, 5, 4)
        told = tightest(drawing, one, OUTSIDE)
        self.tells(told[1], 9)
        self.assertTrue(self.shown(drawing, one, OUTSIDE, told))
        small = tuple(drawing.corners.index(corner) for corner in ((2, 1, 1), (3, 1, 1), (2, 2, 1)))
        self.tells(ring_price(drawing, small), 150)
        self.assertFalse(self.shown(drawing, one, OUTSIDE, ("ring", 150, small, told[3])))
        self.assertFalse(self.shown(drawing, one, OUTSIDE, ("ring", 9, small, told[3])))
        raised = tuple((points, 150 if k == 0 else many) for k, (points, many) in enumerate(told[3]))
        self.assertFalse(self.shown(drawing, one, OUTSIDE, ("ring", 150, small, raised)))

    def test_bent_in_one_place(self):
        three = Drawing(THREE)
        for one, other, value in ((WITHIN, OUTSIDE, PAPER), (WITHIN, OUTSIDE, tightest(three, WITHIN, OUTSIDE)),
                                  (WITHIN, (1, 2, 1), tightest(three, WITHIN, (1, 2, 1)))):
            self.assertTrue(self.shown(three, one, other, value))
            for bent in bends(value):
                with self.subTest(bent):
                    self.shown(three, one, other, bent)

    def test_drawn_ones_bent_in_one_place(self):
        for seed in range(3):
            for name, fences in kinds(seed):
                drawing = drawing_of(fences)
                one, other = random_spots(fences, seed + 40, 2, 5)
                for value in list(bends(tightest(drawing, one, other)))[::13]:
                    with self.subTest((name, seed, value)):
                        self.shown(drawing, one, other, value)


if __name__ == "__main__":
    unittest.main()
