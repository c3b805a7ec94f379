"""Section 6: half pieces, nexts, rounds."""

import unittest

from ringsorways import rounds as module
from ringsorways.drawings import Drawing
from ringsorways.rounds import nexts, rounds
from tests.by_hand import HAND
from tests.drawn import drawing_of, great, kinds
from tests.ruler import half_ends, slow_nexts, slow_rounds
from tests.support import Exact, name_number

ROWS = ["drawing", "fence a 0 0 4 0 1", "fence b 4 0 4 4 1", "fence c 4 4 0 4 1", "fence d 0 4 0 0 1"]


class TestExamples(Exact):
    def test_square_and_both(self):
        square = Drawing("\n".join(ROWS))
        self.tells([nexts(square), rounds(square)], [(2, 7, 4, 1, 6, 3, 0, 5), ((0, 2, 4, 6), (1, 7, 5, 3))])
        both = Drawing("\n".join(ROWS + ["fence e 1 1 3 1 1", "fence f 3 1 2 3 1", "fence g 2 3 1 1 1"]))
        self.tells(rounds(both)[2:], ((8, 10, 12), (9, 13, 11)))

    def test_twig(self):
        twig = Drawing("drawing\nfence a 0 0 2 0 1\nfence b 1 0 1 1 1")
        self.tells([twig.pieces, rounds(twig)], [(("a", 0, 1), ("a", 1, 3), ("b", 1, 2)), ((0, 4, 5, 2, 3, 1),)])

    def test_what_is_told_below(self):
        self.tells(nexts(Drawing("\n".join(ROWS)))[0], 2)


class TestInterface(Exact):
    def test_the_functions_are_defined_in_the_file(self):
        for function in (nexts, rounds):
            self.assertEqual(function.__module__, "ringsorways.rounds")
            self.assertIs(getattr(module, function.__name__), function)

    def test_arguments_by_name_and_equal_calls(self):
        text = "\n".join(ROWS)
        drawing = Drawing(text)
        self.tells(nexts(drawing=drawing), nexts(Drawing(text)))
        self.tells(rounds(drawing=drawing), rounds(Drawing(text)))
        self.tells([drawing.text, drawing.pieces], [text, Drawing(text).pieces])


class TestByHand(Exact):
    def test_nexts_and_rounds(self):
        for name, told in HAND.items():
            with self.subTest(name):
                drawing = Drawing(told["text"])
                self.tells(nexts(drawing), told["nexts"])
                self.tells(rounds(drawing), told["rounds"])


class TestDrawn(Exact):
    def each(self):
        for seed in range(12):
            for name, fences in kinds(seed):
                yield (name, seed), drawing_of(fences)

    def test_against_the_tests_own_sums(self):
        for name, drawing in self.each():
            with self.subTest(name):
                follow = slow_nexts(drawing.corners, drawing.pieces)
                self.tells(nexts(drawing), follow)
                self.tells(rounds(drawing), slow_rounds(follow))

    def test_great_ones(self):
        for name, fences, _ in great(3):
            with self.subTest(name):
                drawing = drawing_of(fences)
                self.hold_together(drawing)
                if len(drawing.pieces) < 130:
                    self.tells(nexts(drawing), slow_nexts(drawing.corners, drawing.pieces))

    def test_slopes_that_are_nearly_alike(self):
        tips = [(999, 500), (997, 499), (995, 498), (-999, 500), (-997, 499), (997, -499), (999, -500), (1, 1000),
                (0, 1000), (-1, 999), (1, -999), (0, -1000), (-998, 499), (1000, 1), (999, 0), (1000, -1)]
        for rows in (tips, tips[::-1], tips[1::2] + tips[::2]):
            drawing = drawing_of([(name_number(k), (0, 0), tip, 1) for k, tip in enumerate(rows)])
            self.tells(nexts(drawing), slow_nexts(drawing.corners, drawing.pieces))
            self.hold_together(drawing)

    def test_small_ones_hold_together(self):
        for name, drawing in self.each():
            with self.subTest(name):
                self.hold_together(drawing)

    def hold_together(self, drawing):
        """Each half piece is in one round, once; rounds follow nexts, and stand by their least half pieces."""
        follow, found = nexts(drawing), rounds(drawing)
        many = 2 * len(drawing.pieces)
        self.assertEqual(sorted(follow), list(range(many)))
        self.assertEqual(sorted(half for row in found for half in row), list(range(many)))
        self.assertEqual([row[0] for row in found], sorted(min(row) for row in found))
        ends = half_ends(drawing.pieces)
        for row in found:
            for half, after in zip(row, row[1:] + row[:1]):
                self.assertEqual(follow[half], after)
                self.assertEqual(ends[half][1], ends[after][0])


if __name__ == "__main__":
    unittest.main()
