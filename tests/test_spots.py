"""Section 7: in which land a spot lies, and ways between spots."""

import unittest

from ringsorways import spots as module
from ringsorways.drawings import Drawing, led_over, priced
from ringsorways.errors import BadSpot
from ringsorways.lands import lands
from ringsorways.spots import land_of, way_between
from tests.drawn import (drawing_of, great, in_other_sequence, kinds, otherwise, random_spots, spots_beside,
                         spread)
from tests.ruler import Map, is_free, is_true_way, mirrored, turned
from tests.support import Exact, WRONG_POINTS

SQUARE = ("drawing\nfence a 0 0 10 0 1\nfence b 10 0 10 10 1\nfence c 10 10 0 10 1\nfence d 0 10 0 0 1\n"
          "fence e 5 5 7 5 1")
CROSSED = "drawing\nfence a -2 0 2 0 3\nfence b 0 -2 0 2 1\nfence c 3 1 9 4 1"

ON_FENCES = ((-2, 0, 1), (0, 0, 1), (1, 0, 1), (0, 1, 3), (0, 2, 1), (5, 2, 1), (1999, 0, 1000), (9, 4, 1), (3, 1, 1))
BEYOND = ((2001, 0, 1), (0, -2001, 1), (4001, 0, 2), (1, -4001, 2), (2000001, 0, 1000), (5, 2000001, 1000),
          (-2000001, 7, 1000), (10 ** 12 - 1, 1, 1), (1, 1, 1001), (1, 5, 1009), (1, 7, 10 ** 9))
AT_BOUNDS = ((2000, 2000, 1), (-2000, 2000, 1), (2000, -2000, 1), (-2000, -2000, 1), (2000000, 1999999, 1000),
             (-1999999, -2000000, 1000), (3999, 4000, 2), (1, 1, 1000), (1, 1, 999), (-1, 1, 1000))


class TestExamples(Exact):
    def test_all(self):
        square = Drawing(SQUARE)
        spots = ((1, 1, 1), (20, 5, 1), (9, 11, 2), (13, 12, 2))
        self.tells([land_of(square, spot) for spot in spots], [1, 0, 1, 1])
        told = [way_between(square, (1, 1, 1), (1, 1, 1)), way_between(square, (1, 1, 1), (20, 5, 1))]
        self.tells(told, [((1, 1, 1),), None])
        way = way_between(square, (6, 4, 1), (6, 6, 1))
        self.tells([way[0], way[-1], len(way) > 2], [(6, 4, 1), (6, 6, 1), True])
        self.assertTrue(is_true_way(square, way, (6, 4, 1), (6, 6, 1)))


class TestInterface(Exact):
    def test_the_functions_are_defined_in_the_file(self):
        for function in (land_of, way_between):
            self.assertEqual(function.__module__, "ringsorways.spots")
            self.assertIs(getattr(module, function.__name__), function)

    def test_arguments_by_name_and_equal_calls(self):
        drawing = Drawing(SQUARE)
        self.tells(land_of(spot=(1, 1, 1), drawing=drawing), land_of(Drawing(SQUARE), (1, 1, 1)))
        told = way_between(other=(6, 6, 1), one=(6, 4, 1), drawing=drawing)
        self.tells(told, way_between(Drawing(SQUARE), (6, 4, 1), (6, 6, 1)))
        self.tells([drawing.text, drawing.corners], [SQUARE, Drawing(SQUARE).corners])


class TestErrors(Exact):
    def refuses_spot(self, drawing, value):
        good, worse = (-1, 5, 1), (7, 7, 0)
        self.refuses_the_very(BadSpot, value, land_of, drawing, value)
        self.refuses_the_very(BadSpot, value, way_between, drawing, value, good)
        self.refuses_the_very(BadSpot, value, way_between, drawing, good, value)
        self.refuses_the_very(BadSpot, value, way_between, drawing, value, worse)
        self.refuses_the_very(BadSpot, worse, way_between, drawing, worse, value)

    def test_what_is_no_point(self):
        for value in WRONG_POINTS:
            if value != (0, 0, 1):
                with self.subTest(value):
                    self.refuses_spot(Drawing(CROSSED), value)

    def test_points_on_fences(self):
        for value in ON_FENCES:
            with self.subTest(value):
                self.refuses_spot(Drawing(CROSSED), value)
                self.tells(land_of(Drawing("drawing"), value), 0)

    def test_each_corner_and_the_midst_of_each_piece(self):
        for name, fences in kinds(4):
            drawing = drawing_of(fences)
            marks = [corner for corner in drawing.corners if corner[2] <= 1000]
            marks += [(a[0] + b[0], a[1] + b[1], 2) for _, a, b, _ in fences if (a[0] + b[0]) % 2]
            for mark in marks:
                with self.subTest((name, mark)):
                    self.refuses_the_very(BadSpot, mark, land_of, drawing, mark)

    def test_beyond_the_bounds(self):
        for value in BEYOND:
            with self.subTest(value):
                self.refuses_spot(Drawing(CROSSED), value)
                self.refuses_the_very(BadSpot, value, land_of, Drawing("drawing"), value)

    def test_one_is_looked_at_ahead_of_other(self):
        one, other = (0, 0, 1), (2001, 0, 1)
        self.refuses_the_very(BadSpot, one, way_between, Drawing(CROSSED), one, other)
        self.refuses_the_very(BadSpot, other, way_between, Drawing(CROSSED), other, one)
        self.refuses_the_very(BadSpot, other, way_between, Drawing(CROSSED), other=one, one=other)


class Ways(Exact):
    def holds(self, drawing, one, other, alike):
        """A way is told exactly if the spots are of one land, and it is one by the ruler."""
        way = way_between(drawing, one, other)
        self.assertEqual(way is not None, alike, (one, other, way))
        if way is not None:
            self.assertTrue(is_true_way(drawing, way, one, other), way)
        return way


class TestBounds(Ways):
    def test_at_the_bounds(self):
        drawing = Drawing(CROSSED)
        for one in AT_BOUNDS:
            self.tells(land_of(drawing, one), 0)
            for other in AT_BOUNDS:
                self.holds(drawing, one, other, True)

    def test_round_a_drawing_as_wide_as_can_be(self):
        corners = [(-1000, -1000), (1000, -1000), (1000, 1000), (-1000, 1000)]
        lines = [f"fence {'abcd'[k]} {corners[k - 1][0]} {corners[k - 1][1]} {corners[k][0]} {corners[k][1]} 1"
                 for k in range(4)]
        shut = Drawing("\n".join(["drawing"] + lines))
        inner, outer = (999999, 999999, 1000), (1000001, 0, 1000)
        self.tells([land_of(shut, inner), land_of(shut, outer)], [1, 0])
        self.holds(shut, inner, outer, False)
        self.holds(shut, inner, (-999999, -999999, 1000), True)
        self.holds(shut, outer, (-1000001, 0, 1000), True)
        self.holds(Drawing("\n".join(["drawing"] + lines[:3])), inner, outer, True)


class TestNarrow(Ways):
    def test_through_a_gap(self):
        # Two long fences come together at the right; the way out is at the left.
        text = "drawing\nfence a -1000 0 1000 1 1\nfence b -1000 1 1000 1 1\nfence c 998 -9 998 9 1"
        drawing = Drawing(text)
        within = (997500, 999, 1000)
        self.tells(land_of(drawing, within), 0)
        self.assertTrue(is_free(drawing.fences, within))
        self.holds(drawing, within, (0, 7, 1), True)
        beyond = [spot for spot in spots_beside(drawing.fences, drawing.corners) if land_of(drawing, spot) != 0]
        for spot in beyond:
            self.holds(drawing, spot, (0, 7, 1), False)

    def test_straight_along_a_fence(self):
        for text, one, other in (("a 0 0 4 0", (-1, 0, 1), (5, 0, 1)), ("a 0 0 0 4", (0, 9, 2), (0, -1, 1)),
                                 ("a 0 0 4 2", (-2, -1, 2), (10, 5, 1)), ("a -3 1 3 -3", (9, -7, 1), (-9, 5, 1))):
            lone = Drawing(f"drawing\nfence {text} 1")
            self.assertGreater(len(self.holds(lone, one, other, True)), 2)
            self.assertGreater(len(self.holds(lone, other, one, True)), 2)
            self.tells(len(self.holds(Drawing("drawing"), one, other, True)), 2)

    def test_upright_fences_one_over_the_other(self):
        text = ("drawing\nfence a 0 0 0 4 1\nfence b 0 4 0 9 1\nfence c 0 10 0 20 1\nfence d -5 0 5 0 1\n"
                "fence e -5 20 5 20 1")
        drawing = Drawing(text)
        for one in ((-1, 2, 1), (-1, 5, 1), (-1, 15, 1), (0, 19, 2), (-3, 0, 7)):
            if is_free(drawing.fences, one):
                for other in ((1, 2, 1), (1, 5, 1), (1, 15, 1), (0, 19, 2), (0, 21, 1), (0, -1, 1)):
                    self.holds(drawing, one, other, True)
        shut = Drawing(text + "\nfence f 0 9 0 10 1\nfence g -5 0 -5 20 1\nfence h 5 0 5 20 1")
        self.tells([land_of(shut, spot) for spot in ((-1, 2, 1), (1, 2, 1))], [1, 2])
        self.holds(shut, (-1, 2, 1), (1, 2, 1), False)
        self.holds(shut, (-1, 2, 1), (-1, 15, 1), True)

    def test_a_winding_place(self):
        lines = [f"fence {name} {a} {b} {c} {d} 1" for name, a, b, c, d in (
            ("a", 0, 0, 10, 0), ("b", 10, 0, 10, 10), ("c", 10, 10, 0, 10), ("d", 0, 10, 0, 2), ("e", 0, 2, 8, 2),
            ("f", 8, 2, 8, 8), ("g", 8, 8, 2, 8), ("h", 2, 8, 2, 4), ("i", 2, 4, 6, 4))]
        drawing = Drawing("\n".join(["drawing"] + lines))
        way = self.holds(drawing, (3, 6, 1), (-3, 1, 1), True)
        self.assertGreater(len(way), 4)
        shut = Drawing(drawing.text + "\nfence j 0 0 0 2 1")
        self.holds(shut, (3, 6, 1), (-3, 1, 1), False)
        self.holds(shut, (3, 6, 1), (1, 1, 1), True)


class TestDrawn(Ways):
    def look(self, fences, spots, many, seed):
        drawing = drawing_of(fences)
        plain = Map(drawing.corners, drawing.pieces)
        told = [plain.land_around(spot) for spot in spots]
        self.tells([land_of(drawing, spot) for spot in spots], told)
        by_spot = dict(zip(spots, told))
        for one, other in spread(spots, told, seed, many):
            self.holds(drawing, one, other, by_spot[one] == by_spot[other])

    def test_small_ones(self):
        for seed in range(12):
            for name, fences in kinds(seed):
                with self.subTest((name, seed)):
                    self.look(fences, random_spots(fences, seed, 8), 6, seed)

    def test_beside_fences_and_corners(self):
        for seed in range(4):
            for name, fences in kinds(seed):
                with self.subTest((name, seed)):
                    spots = spots_beside(fences, drawing_of(fences).corners) + [(15, 15, 1)]
                    self.look(fences, spots, 12, seed)

    def test_great_ones(self):
        for name, fences, far in great(1):
            with self.subTest(name):
                drawing = drawing_of(fences)
                spots = random_spots(fences, 2, 12, far)
                told = [land_of(drawing, spot) for spot in spots]
                self.assertTrue(all(0 <= land < len(lands(drawing)) for land in told))
                by_spot = dict(zip(spots, told))
                for one, other in spread(spots, told, 1, 6):
                    self.holds(drawing, one, other, by_spot[one] == by_spot[other])

    def test_ways_put_together(self):
        for name, fences in kinds(7):
            drawing = drawing_of(fences)
            spots = random_spots(fences, 7, 5)
            for a, b, c in zip(spots, spots[1:], spots[2:]):
                first, second = way_between(drawing, a, b), way_between(drawing, b, c)
                if first is not None and second is not None:
                    with self.subTest((name, a, c)):
                        self.assertTrue(is_true_way(drawing, first + second[1:], a, c))
                        self.holds(drawing, a, c, True)


class TestOtherwise(Ways):
    def test_the_same_lands(self):
        for seed in range(5):
            for name, fences in kinds(seed):
                drawing = drawing_of(fences)
                spots = random_spots(fences, seed + 50, 6)
                told = [land_of(drawing, spot) for spot in spots]
                others = [(drawing_of(otherwise(fences, seed)), lambda spot: spot),
                          (drawing_of(in_other_sequence(fences, seed)), lambda spot: spot),
                          (led_over(drawing, "turned"), turned), (led_over(drawing, "mirrored"), mirrored)]
                for other, change in others:
                    moved = [change(spot) for spot in spots]
                    found = [land_of(other, spot) for spot in moved]
                    with self.subTest((name, seed)):
                        for k in range(1, len(spots)):
                            self.assertEqual(told[0] == told[k], found[0] == found[k])
                            self.assertEqual(told[k - 1] == told[k], found[k - 1] == found[k])
                            self.holds(other, moved[k - 1], moved[k], told[k - 1] == told[k])

    def test_prices_change_nothing(self):
        for name, fences in kinds(3):
            drawing = drawing_of(fences)
            one, other = random_spots(fences, 3, 2)
            for fence in fences:
                changed = priced(drawing, fence[0], 99)
                self.tells(land_of(changed, one), land_of(drawing, one))
                self.tells(way_between(changed, one, other), way_between(drawing, one, other))


if __name__ == "__main__":
    unittest.main()
