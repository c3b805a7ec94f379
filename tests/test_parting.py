"""Section 8: rings, crossing ways, and which of way and ring there is."""

import random
import unittest

from ringsorways import parting as module
from ringsorways.drawings import Drawing, led_over
from ringsorways.errors import BadRing, BadSpot, BadWay
from ringsorways.parting import parting, ring_has, ring_price, shows_parting, way_price
from ringsorways.spots import land_of
from tests.drawn import drawing_of, great, in_other_sequence, kinds, random_spots, spots_beside, spread
from tests.judge import begun_elsewhere, bends, judge_parting, with_midpoints
from tests.ruler import (all_rings, is_true_parting, is_true_spot, is_true_way, mirrored, slow_ring_has,
                         slow_ring_pieces, slow_ring_price, slow_way_price, turned)
from tests.support import ANY_VALUES, Exact, WRONG_POINTS

YARD = "drawing\nfence s 0 0 4 0 1\nfence e 4 0 4 4 2\nfence n 4 4 0 4 1\nfence w 0 4 0 0 3"
RING = (0, 1, 3, 2)
WITHIN, EAST, WEST = (2, 2, 1), (6, 2, 1), (-2, 2, 1)
# Corners of CUT: (0, 0), (0, 4), (2, 0), (2, 4), (2, 6), (4, 0), (4, 4); the fence f stands out at the top.
CUT = YARD + "\nfence f 2 0 2 6 5"


class TestExamples(Exact):
    def test_all(self):
        yard = Drawing(YARD)
        self.tells([yard.corners, yard.pieces], [
            ((0, 0, 1), (0, 4, 1), (4, 0, 1), (4, 4, 1)), (("s", 0, 2), ("e", 2, 3), ("n", 3, 1), ("w", 1, 0))])
        self.tells([parting(yard, WITHIN, EAST)[0], ring_has(yard, RING, WITHIN), ring_has(yard, RING, EAST),
                    ring_price(yard, RING)], ["ring", True, False, 7])
        self.tells([way_price(yard, (WITHIN, EAST)), way_price(yard, (WEST, EAST)),
                    way_price(yard, (EAST, (2, -3, 1), WEST)), way_price(yard, (WITHIN,))], [2, 5, 0, 0])
        self.tells([shows_parting(yard, EAST, WEST, ("way", (EAST, (2, -3, 1), WEST))),
                    shows_parting(yard, EAST, WEST, ("way", (EAST, WEST)))], [True, False])
        self.tells(shows_parting(yard, WITHIN, EAST, ("ring", (3, 2, 0, 1))), True)

    def test_what_is_told_below(self):
        way = ((2, 2, 1), (6, 6, 1))
        self.refuses_the_very(BadWay, way, way_price, Drawing(YARD), way)


class TestInterface(Exact):
    def test_the_functions_are_defined_in_the_file(self):
        for function in (ring_has, ring_price, way_price, parting, shows_parting):
            self.assertEqual(function.__module__, "ringsorways.parting")
            self.assertIs(getattr(module, function.__name__), function)

    def test_arguments_by_name_and_equal_calls(self):
        yard = Drawing(YARD)
        self.tells(ring_has(spot=WITHIN, ring=RING, drawing=yard), True)
        self.tells(ring_price(ring=RING, drawing=yard), 7)
        self.tells(way_price(points=(WEST, EAST), drawing=yard), 5)
        told = parting(other=EAST, one=WITHIN, drawing=yard)
        self.tells(told, parting(Drawing(YARD), WITHIN, EAST))
        self.tells(shows_parting(value=told, other=EAST, one=WITHIN, drawing=yard), True)
        self.tells([yard.text, yard.pieces], [YARD, Drawing(YARD).pieces])


class TestRings(Exact):
    def test_wrong_rings(self):
        yard = Drawing(CUT)
        self.tells(ring_price(yard, (0, 1, 3, 2)), 3 + 1 + 5 + 1)
        wrong = [(), (0,), (0, 2), (0, 2, 0), (0, 1, 3), (0, 2, 6), (0, 1, 3, 2, 0), (0, 1, 3, 2, 0, 1, 3, 2),
                 (0, 1, 3, 4), (3, 4, 3, 1), (0, 1, 3, 8), (0, 1, 3, -6), (-1, 0, 1), (False, True, 3, 2),
                 (0, True, 3, 2), (0, 1, 3, "2"), (0, 1, 3, None), (0, 1, 3, (2,)), (0, 1, 3, [2]), [0, 1, 3, 2],
                 "0132", (yard.corners[0], yard.corners[1], yard.corners[3], yard.corners[2]), ((0, 1, 3, 2),),
                 (0, 1, 3, 2, 10 ** 12), (0, 3, 1, 2), {0: 1, 1: 3, 3: 2}]
        for value in wrong + list(ANY_VALUES):
            with self.subTest(value):
                self.refuses_the_very(BadRing, value, ring_price, yard, value)
                self.refuses_the_very(BadRing, value, ring_has, yard, value, WITHIN)
                self.refuses_the_very(BadRing, value, ring_has, yard, value, (0, 0, 1))
                self.refuses_the_very(BadRing, value, ring_price, Drawing("drawing"), value)

    def test_wrong_spots(self):
        yard = Drawing(YARD)
        wrong = [value for value in WRONG_POINTS] + [(0, 0, 1), (2, 0, 1), (1, 4, 1), (2001, 0, 1), (1, 1, 1001)]
        for value in wrong:
            with self.subTest(value):
                self.refuses_the_very(BadSpot, value, ring_has, yard, RING, value)

    def test_begun_elsewhere_and_the_other_way_round(self):
        yard = Drawing(CUT)
        left, right = (1, 2, 1), (3, 2, 1)
        for ring, price, within in (((0, 1, 3, 2), 10, (True, False)), ((2, 3, 6, 5), 9, (False, True)),
                                    ((0, 1, 3, 6, 5, 2), 9, (True, True))):
            for at in range(len(ring)):
                for told in (begun_elsewhere(ring, at), begun_elsewhere(ring, at)[::-1]):
                    self.tells(ring_price(yard, told), price)
                    self.tells((ring_has(yard, told, left), ring_has(yard, told, right)), within)
                    self.tells(ring_has(yard, told, EAST), False)

    def test_every_ring_of_small_drawings(self):
        for seed in range(8):
            for name, fences in kinds(seed):
                drawing = drawing_of(fences)
                if len(drawing.pieces) > 24:
                    continue
                spots = random_spots(fences, seed, 3)
                for ring in all_rings(drawing)[:40]:
                    with self.subTest((name, seed, ring)):
                        self.tells(ring_price(drawing, ring), slow_ring_price(drawing, ring))
                        self.tells(ring_price(drawing, ring[::-1]), slow_ring_price(drawing, ring))
                        for spot in spots:
                            self.tells(ring_has(drawing, ring, spot), slow_ring_has(drawing, ring, spot))

    def test_rows_of_corners_drawn_by_chance(self):
        dice = random.Random(8)
        drawing = Drawing(CUT)
        for _ in range(600):
            row = tuple(dice.sample(range(len(drawing.corners)), dice.randint(2, 6)))
            if slow_ring_pieces(drawing, row) is None:
                self.refuses_the_very(BadRing, row, ring_price, drawing, row)
            else:
                self.tells(ring_price(drawing, row), slow_ring_price(drawing, row))


class TestWayPrice(Exact):
    def test_right_ones(self):
        yard = Drawing(YARD)
        for points, price in (
                ((WITHIN,), 0), ((EAST,), 0), ((WITHIN, EAST, WITHIN), 4), ((WITHIN, EAST, WITHIN, EAST), 6),
                ((WEST, WITHIN, EAST), 5), ((WITHIN, (2, 9, 1)), 1), (((1, -1, 1), (-3, 1, 2), (-1, 1, 1)), 0),
                (((2, -1, 1), (2, 5, 1)), 2), ((WITHIN, (3, 3, 1), (6, 2, 1)), 2),
                ((EAST, (99999, 1, 1), (10 ** 11, 7, 10 ** 9), WEST), 5)):
            with self.subTest(points):
                self.tells(slow_way_price(yard, points), price)
                self.tells(way_price(yard, points), price)

    def test_wrong_ones(self):
        yard = Drawing(CUT)
        wrong = [
            (), (WITHIN, WITHIN), (EAST, EAST), (EAST, WEST, WEST), [EAST, (2, -3, 1), WEST], (EAST, [2, -3, 1], WEST),
            # Ends that are no spots: on a fence, at a corner, beyond the bounds, of too great a bottom.
            ((2, 0, 1), EAST), (EAST, (0, 0, 1)), (EAST, (2001, 0, 1)), ((7, 1, 1001), EAST), ((1, 0, 1),),
            ((2001, 0, 1),), ((9999, 1, 1001),), (EAST, (9, 1, 1001)),
            # Further points on fences and at corners.
            (EAST, (4, 2, 1), (3, 2, 1)), (EAST, (4, 4, 1), (9, 9, 1)), (EAST, (2, 5, 1), WEST),
            # Through corners, over the ends of fences, and along fences.
            ((3, 3, 1), (5, 5, 1)), ((-1, -1, 1), (1, 1, 1)), ((1, 7, 1), (3, 5, 1)), ((-1, 0, 1), (5, 0, 1)),
            ((2, -1, 1), (2, 7, 1)), ((1, 3, 1), (3, 5, 1)), ((-2, 0, 1), (1, 0, 1)),
            # No points.
            (EAST, None, WEST), (EAST, (2, -3), WEST), (EAST, (4, -6, 2), WEST), (EAST, (True, -3, 1), WEST),
            (EAST, (2, -3, 0), WEST), ("way", (EAST, WEST)), (EAST, WEST, 1), EAST, ((EAST, WEST),),
        ]
        for value in wrong + list(ANY_VALUES):
            if value == ((0, 0, 1),):
                continue
            with self.subTest(value):
                self.refuses_the_very(BadWay, value, way_price, yard, value)
        corner = ((0, 0, 1),)
        self.refuses_the_very(BadWay, corner, way_price, yard, corner)
        self.tells(way_price(Drawing("drawing"), corner), 0)

    def test_crossings_at_points_that_are_no_corners(self):
        told = Drawing("drawing\nfence a -9 0 9 0 4\nfence b 0 -9 0 9 7\nfence c 3 -1 3 1 9")
        for points, price in ((((1, -1, 1), (1, 1, 1)), 4), (((-1, 1, 1), (1, 1, 1)), 7), (((4, 1, 2), (8, 1, 2)), 9),
                              (((2, -1, 1), (9, 1, 2)), 13), (((-1, 2, 1), (1, -1, 1)), 11),
                              (((1, 1, 1), (1, -1, 1), (2, 1, 1), (-3, 1, 1)), 15)):
            with self.subTest(points):
                self.tells(way_price(told, points), price)
                self.tells(slow_way_price(told, points), price)
        for points in (((-1, -1, 1), (1, 1, 1)), ((2, -1, 1), (4, 1, 1)), ((3, -2, 1), (3, 2, 1)),
                       ((1, 1, 1), (3, 1, 1))):
            self.refuses_the_very(BadWay, points, way_price, told, points)

    def test_straight_along_a_lone_fence(self):
        for text, one, other, aside in (("a 0 0 4 0", (-1, 0, 1), (5, 0, 1), (-9, 0, 1)),
                                        ("a 0 0 0 4", (0, -1, 1), (0, 9, 2), (0, -9, 1)),
                                        ("a 0 0 4 2", (-2, -1, 2), (10, 5, 1), (-8, -4, 1))):
            lone = Drawing(f"drawing\nfence {text} 1")
            for points in ((one, other), (other, one), (aside, other), (one, other, one)):
                self.refuses_the_very(BadWay, points, way_price, lone, points)
                self.tells(shows_parting(lone, points[0], points[-1], ("way", points)), False)
            # On the same line, but beside the fence.
            self.tells(way_price(lone, (one, aside)), 0)
            self.tells(shows_parting(lone, one, aside, ("way", (one, aside))), True)

    def test_bent_lines_drawn_by_chance(self):
        for seed in range(6):
            dice = random.Random(seed)
            for name, fences in kinds(seed):
                drawing = drawing_of(fences)
                for _ in range(12):
                    # Whole points lie on fences and corners often.
                    points = tuple((dice.randint(-7, 7), dice.randint(-7, 7), 1) for _ in range(dice.randint(1, 4)))
                    price = slow_way_price(drawing, points)
                    with self.subTest((name, seed, points)):
                        if price is None:
                            self.refuses_the_very(BadWay, points, way_price, drawing, points)
                        else:
                            self.tells(way_price(drawing, points), price)


class TestParting(Exact):
    def holds(self, drawing, one, other):
        """Just one of way and ring is told, and it is right by the ruler."""
        told = parting(drawing, one, other)
        self.assertIs(type(told), tuple)
        self.assertEqual(len(told), 2)
        alike = land_of(drawing, one) == land_of(drawing, other)
        self.tells(told[0], "way" if alike else "ring")
        right = is_true_way if alike else is_true_parting
        self.assertTrue(right(drawing, told[1], one, other), told)
        self.tells(shows_parting(drawing, one, other, told), True)
        self.tells(shows_parting(drawing, other, one, told), not alike or one == other)
        return told

    def test_errors(self):
        yard = Drawing(YARD)
        bad, worse = (0, 0, 1), (2001, 0, 1)
        for value in [value for value in WRONG_POINTS] + [bad, worse, (1, 1, 1001), (4, 1, 1)]:
            with self.subTest(value):
                self.refuses_the_very(BadSpot, value, parting, yard, value, EAST)
                self.refuses_the_very(BadSpot, value, parting, yard, EAST, value)
                self.refuses_the_very(BadSpot, value, parting, yard, value, worse)
                self.refuses_the_very(BadSpot, worse, parting, yard, worse, value)
                self.refuses_the_very(BadSpot, value, shows_parting, yard, value, EAST, None)
                self.refuses_the_very(BadSpot, value, shows_parting, yard, EAST, value, ("way", (EAST,)))
                self.refuses_the_very(BadSpot, worse, shows_parting, yard, worse, value, ("ring", RING))

    def test_small_ones(self):
        for seed in range(12):
            for name, fences in kinds(seed):
                drawing = drawing_of(fences)
                spots = random_spots(fences, seed, 7) + spots_beside(fences, drawing.corners)[:9]
                told = [land_of(drawing, spot) for spot in spots]
                for one, other in spread(spots, told, seed, 5):
                    with self.subTest((name, seed, one, other)):
                        self.holds(drawing, one, other)

    def test_great_ones(self):
        for name, fences, far in great(2):
            drawing = drawing_of(fences)
            spots = random_spots(fences, 4, 10, far)
            told = [land_of(drawing, spot) for spot in spots]
            for one, other in spread(spots, told, 3, 6):
                with self.subTest((name, one, other)):
                    self.holds(drawing, one, other)

    def test_never_both(self):
        for name, fences in kinds(9):
            drawing = drawing_of(fences)
            spots = random_spots(fences, 9, 5)
            for one, other in zip(spots, spots[1:]):
                told = parting(drawing, one, other)
                if told[0] == "way" and len(drawing.pieces) < 25:
                    for ring in all_rings(drawing)[:30]:
                        self.tells(shows_parting(drawing, one, other, ("ring", ring)), False)
                if told[0] == "ring":
                    self.tells(shows_parting(drawing, one, other, ("way", (one, other))), False)

    def test_the_same_turned_mirrored_and_in_another_sequence(self):
        for seed in range(5):
            for name, fences in kinds(seed):
                drawing = drawing_of(fences)
                one, other = random_spots(fences, seed + 9, 2, 6)
                word = parting(drawing, one, other)[0]
                self.tells(parting(drawing_of(in_other_sequence(fences, seed)), one, other)[0], word)
                self.tells(parting(led_over(drawing, "turned"), turned(one), turned(other))[0], word)
                self.tells(parting(led_over(drawing, "mirrored"), mirrored(one), mirrored(other))[0], word)


class TestShowsParting(Exact):
    def test_values_of_any_kind(self):
        yard = Drawing(YARD)
        for value in ANY_VALUES + (("way",), ("ring",), ("way", ()), ("ring", ()), ("way", None), ("ring", {})):
            for one, other in ((WITHIN, EAST), (WEST, EAST), (WITHIN, WITHIN)):
                self.tells(shows_parting(yard, one, other, value), False)

    def test_right_ones_that_the_program_did_not_make(self):
        yard = Drawing(CUT)
        one = (1, 1, 1)
        for ring in ((0, 1, 3, 2), (0, 1, 3, 6, 5, 2)):
            for at in range(len(ring)):
                for told in (begun_elsewhere(ring, at), begun_elsewhere(ring, at)[::-1]):
                    self.tells(shows_parting(yard, one, EAST, ("ring", told)), True)
                    self.tells(shows_parting(yard, EAST, WEST, ("ring", told)), False)
        way = (EAST, (2, -3, 1), WEST)
        for _ in range(4):
            self.tells(shows_parting(yard, EAST, WEST, ("way", way)), True)
            self.tells(shows_parting(yard, WEST, EAST, ("way", way[::-1])), True)
            self.tells(shows_parting(yard, WEST, EAST, ("way", way)), False)
            way = with_midpoints(way)
        self.tells(shows_parting(yard, EAST, EAST, ("way", way + way[-2::-1])), True)

    def test_great_numbers(self):
        yard = Drawing(YARD)
        far = (10 ** 60 + 1, -10 ** 61, 3)
        way = (EAST, (2, -10 ** 70, 1), far, (-5, -10 ** 80, 1), WEST)
        self.tells(shows_parting(yard, EAST, WEST, ("way", way)), True)
        beside = (4 * 10 ** 50 + 1, 10 ** 50, 10 ** 50)
        self.tells(shows_parting(yard, EAST, EAST, ("way", (EAST, beside, EAST))), True)
        over = (4 * 10 ** 50 - 1, 10 ** 50, 10 ** 50)
        self.tells(shows_parting(yard, EAST, EAST, ("way", (EAST, over, EAST))), False)

    def test_bent_in_one_place(self):
        cut = Drawing(CUT)
        pairs = [((1, 1, 1), (3, 1, 1)), ((1, 1, 1), EAST), (WEST, EAST), ((1, 1, 1), (1, 3, 1)), (EAST, EAST)]
        for one, other in pairs:
            told = parting(cut, one, other)
            for value in bends(told):
                with self.subTest((one, other, value)):
                    self.tells(shows_parting(cut, one, other, value), judge_parting(cut, one, other, value))
        for seed in range(3):
            for name, fences in kinds(seed):
                drawing = drawing_of(fences)
                one, other = random_spots(fences, seed + 20, 2, 5)
                for value in list(bends(parting(drawing, one, other)))[::3]:
                    with self.subTest((name, value)):
                        self.tells(shows_parting(drawing, one, other, value),
                                   judge_parting(drawing, one, other, value))

    def test_ways_that_touch_and_rings_with_a_corner_twice(self):
        cut = Drawing(CUT)
        for way in ((WEST, (2, 6, 1), EAST), (WEST, (1, 6, 1), (3, 6, 1), EAST), (WEST, (2, 7, 1), (4, 5, 1), EAST),
                    (WEST, (1, 5, 1), (2, 5, 1), EAST), (WEST, (0, -1, 1), (5, -1, 1), (4, 2, 1), EAST)):
            self.tells(shows_parting(cut, WEST, EAST, ("way", way)), judge_parting(cut, WEST, EAST, ("way", way)))
        self.tells(is_true_spot(cut.fences, EAST), True)
        for ring in ((0, 1, 3, 2, 5, 6, 3, 2), (0, 1, 3, 2, 0), (2, 3, 4), (0, 1, 3, 4, 3, 2)):
            self.tells(shows_parting(cut, (1, 1, 1), EAST, ("ring", ring)), False)


if __name__ == "__main__":
    unittest.main()
