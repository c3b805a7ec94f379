"""Section 6: lands, parts, sides, areas, what lies around."""

import unittest
from fractions import Fraction

from ringsorways import lands as module
from ringsorways.drawings import Drawing, led_over
from ringsorways.errors import BadLand, BadPiece
from ringsorways.lands import area, around, hanging, lands, sides
from ringsorways.rounds import rounds
from tests.by_hand import HAND
from tests.drawn import drawing_of, great, kinds, otherwise
from tests.ruler import Map, half_ends, mirrored, slow_area, turned
from tests.support import ANY_VALUES, Exact

ROWS = ["drawing", "fence a 0 0 4 0 1", "fence b 4 0 4 4 1", "fence c 4 4 0 4 1", "fence d 0 4 0 0 1"]
BOTH = "\n".join(ROWS + ["fence e 1 1 3 1 1", "fence f 3 1 2 3 1", "fence g 2 3 1 1 1"])


class TestExamples(Exact):
    def test_all(self):
        square = Drawing("\n".join(ROWS))
        self.tells([lands(square), hanging(square)], [((None, (1,)), (0, ())), 1])
        both = Drawing(BOTH)
        self.tells([lands(both), hanging(both), sides(both, 4), sides(both, 0)],
                   [((None, (1,)), (0, (3,)), (2, ())), 2, (2, 1), (1, 0)])
        self.tells([area(both, 1), area(both, 2), around(both, 2), around(both, 1)], [(14, 1), (2, 1), (1,), ()])
        self.tells(lands(Drawing("drawing\nfence a 0 0 2 0 1\nfence b 1 0 1 1 1")), ((None, (0,)),))


class TestInterface(Exact):
    def test_the_functions_are_defined_in_the_file(self):
        for function in (lands, hanging, sides, area, around):
            self.assertEqual(function.__module__, "ringsorways.lands")
            self.assertIs(getattr(module, function.__name__), function)

    def test_arguments_by_name_and_equal_calls(self):
        drawing, same = Drawing(BOTH), Drawing(BOTH)
        self.tells(lands(drawing=drawing), lands(same))
        self.tells(hanging(drawing=drawing), hanging(same))
        self.tells(sides(piece=5, drawing=drawing), sides(same, 5))
        self.tells(area(land=2, drawing=drawing), area(same, 2))
        self.tells(around(land=2, drawing=drawing), around(same, 2))
        self.tells(drawing.text, BOTH)


class TestByHand(Exact):
    def test_all(self):
        for name, told in HAND.items():
            with self.subTest(name):
                drawing = Drawing(told["text"])
                self.tells(lands(drawing), told["lands"])
                self.tells(hanging(drawing), told["hanging"])
                self.tells([sides(drawing, piece) for piece in range(len(drawing.pieces))], told["sides"])
                many = len(told["lands"])
                self.tells([area(drawing, land) for land in range(1, many)], told["areas"])
                self.tells([around(drawing, land) for land in range(many)], told["arounds"])


class TestErrors(Exact):
    def test_pieces(self):
        both = Drawing(BOTH)
        self.tells([sides(both, 0), sides(both, 6)], [(1, 0), (2, 1)])
        for value in (-1, 7, 8, -7, 10 ** 12, -10 ** 12):
            self.refuses_the_very(BadPiece, value, sides, both, value)
        for value in (0, -1, 1):
            self.refuses_the_very(BadPiece, value, sides, Drawing("drawing"), value)

    def test_lands(self):
        both = Drawing(BOTH)
        for value in (-1, 3, 4, -2, 10 ** 12, -10 ** 12):
            self.refuses_the_very(BadLand, value, area, both, value)
            self.refuses_the_very(BadLand, value, around, both, value)

    def test_land_0(self):
        for drawing in (Drawing(BOTH), Drawing("drawing"), Drawing("drawing\nfence a 0 0 1 0 1")):
            self.refuses_the_very(BadLand, 0, area, drawing, 0)
            self.tells(around(drawing, 0), ())
        for value in (1, -1):
            self.refuses_the_very(BadLand, value, area, Drawing("drawing"), value)
            self.refuses_the_very(BadLand, value, around, Drawing("drawing"), value)

    def test_what_is_no_integer(self):
        wrong = [value for value in ANY_VALUES if type(value) is not int]
        wrong += [True, False, "0", "1", (1,), [1], (1, 1), {1: 1}]
        for value in wrong:
            with self.subTest(value):
                self.refuses_the_very(BadPiece, value, sides, Drawing(BOTH), value)
                self.refuses_the_very(BadLand, value, area, Drawing(BOTH), value)
                self.refuses_the_very(BadLand, value, around, Drawing(BOTH), value)


class Drawn(Exact):
    """Drawn drawings, and what is the same of two of them."""

    def borders(self, drawing, change=None, mirror=False):
        """For each land the half pieces at whose left it lies, as pairs of corners."""
        ends = half_ends(drawing.pieces)
        found = [set() for _ in lands(drawing)]
        for piece in range(len(drawing.pieces)):
            for half, land in zip((2 * piece, 2 * piece + 1), sides(drawing, piece)):
                pair = [drawing.corners[corner] for corner in ends[half]]
                pair = [change(corner) for corner in pair] if change else pair
                # In a mirror what was at the left is at the right.
                found[land].add(tuple(pair[::-1] if mirror else pair))
        return [frozenset(pairs) for pairs in found]

    def whole(self, drawing, change=None, mirror=False):
        """All that is told of lands and parts, without their numbers."""
        borders = self.borders(drawing, change, mirror)
        told = {}
        for land, border in enumerate(borders):
            size = area(drawing, land) if land else None
            told[border] = (size, tuple(borders[other] for other in around(drawing, land)), land == 0)
        self.assertEqual(len(told), len(borders))
        return told, hanging(drawing)


class TestDrawn(Drawn):
    def each(self):
        for seed in range(10):
            for name, fences in kinds(seed):
                yield (name, seed), fences
        for name, fences, _ in great(5):
            yield name, fences

    def test_against_the_tests_own_sums(self):
        for name, fences in self.each():
            drawing = drawing_of(fences)
            if len(drawing.pieces) > 100:
                continue
            with self.subTest(name):
                plain = Map(drawing.corners, drawing.pieces)
                many = len(plain.rims)
                self.tells(lands(drawing), plain.lands())
                self.tells(hanging(drawing), len(plain.outers))
                pieces = range(len(drawing.pieces))
                self.tells([sides(drawing, piece) for piece in pieces], [plain.sides(piece) for piece in pieces])
                self.tells([area(drawing, k) for k in range(1, many)], [plain.area(k) for k in range(1, many)])
                self.tells([around(drawing, k) for k in range(many)], [plain.around(k) for k in range(many)])

    def test_both_equations(self):
        for name, fences in self.each():
            with self.subTest(name):
                drawing = drawing_of(fences)
                told = lands(drawing)
                self.assertEqual(len(drawing.corners) - len(drawing.pieces) + len(told), 1 + hanging(drawing))
                found = rounds(drawing)
                ends = half_ends(drawing.pieces)
                outside = sum(slow_area(drawing.corners, ends, found[number]) for number in told[0][1])
                total = sum(Fraction(*area(drawing, land)) for land in range(1, len(told)))
                self.assertEqual(total, -outside)

    def test_rims_and_islands(self):
        for name, fences in self.each():
            with self.subTest(name):
                drawing = drawing_of(fences)
                told, found, ends = lands(drawing), rounds(drawing), half_ends(drawing.pieces)
                areas = [slow_area(drawing.corners, ends, row) for row in found]
                rims = [rim for rim, _ in told[1:]]
                self.assertIsNone(told[0][0])
                self.assertEqual(rims, [number for number, size in enumerate(areas) if size > 0])
                islands = [number for _, row in told for number in row]
                self.assertEqual(sorted(islands), [number for number, size in enumerate(areas) if size <= 0])
                self.assertEqual(len(islands), hanging(drawing))
                for _, row in told:
                    self.assertEqual(list(row), sorted(row))

    def test_sides_and_rounds(self):
        for name, fences in self.each():
            with self.subTest(name):
                drawing = drawing_of(fences)
                at_left = {}
                for land, (rim, islands) in enumerate(lands(drawing)):
                    for number in islands + (() if rim is None else (rim,)):
                        at_left.update((half, land) for half in rounds(drawing)[number])
                for piece in range(len(drawing.pieces)):
                    self.tells(sides(drawing, piece), (at_left[2 * piece], at_left[2 * piece + 1]))

    def test_areas_are_above_0(self):
        for name, fences in self.each():
            with self.subTest(name):
                drawing = drawing_of(fences)
                for land in range(1, len(lands(drawing))):
                    top, bottom = area(drawing, land)
                    self.assertGreater(top, 0)
                    self.assertEqual(Fraction(top, bottom).denominator, bottom)


class TestOtherwise(Drawn):
    def test_in_another_sequence(self):
        for seed in range(6):
            for name, fences in kinds(seed):
                with self.subTest((name, seed)):
                    self.assertEqual(self.whole(drawing_of(fences)), self.whole(drawing_of(otherwise(fences, seed))))

    def test_turned_and_mirrored(self):
        for seed in range(6):
            for name, fences in kinds(seed):
                with self.subTest((name, seed)):
                    drawing = drawing_of(fences)
                    self.assertEqual(self.whole(led_over(drawing, "turned"))[0], self.led(drawing, turned, False))
                    self.assertEqual(self.whole(led_over(drawing, "mirrored"))[0], self.led(drawing, mirrored, True))
                    self.assertEqual(hanging(led_over(drawing, "turned")), hanging(drawing))
                    self.assertEqual(hanging(led_over(drawing, "mirrored")), hanging(drawing))

    def led(self, drawing, change, mirror):
        return self.whole(drawing, change, mirror)[0]

    def test_great_ones(self):
        for name, fences, _ in great(6):
            with self.subTest(name):
                drawing = drawing_of(fences)
                plain = [sorted(area(drawing, k) for k in range(1, len(lands(drawing)))), hanging(drawing)]
                for other in (drawing_of(otherwise(fences, 1)), led_over(drawing, "turned"),
                              led_over(drawing, "mirrored")):
                    sizes = sorted(area(other, k) for k in range(1, len(lands(other))))
                    self.assertEqual([sizes, hanging(other)], plain)


if __name__ == "__main__":
    unittest.main()
