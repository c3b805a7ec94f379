"""Section 11: whether a fence is needed to part two spots."""

import unittest

from ringsorways import needed as module
from ringsorways.drawings import Drawing, led_over, without
from ringsorways.errors import BadSpot, NoName
from ringsorways.needed import needed, shows_needed
from ringsorways.spots import land_of
from tests.drawn import drawing_of, great, in_other_sequence, kinds, random_spots, spots_beside, spread
from tests.judge import begun_elsewhere, bends, judge_needed, with_midpoints
from tests.ruler import mirrored, turned
from tests.support import ANY_VALUES, Exact, WRONG_POINTS

YARD = ("drawing\nfence a 0 0 10 0 1\nfence b 10 0 10 10 1\nfence c 10 10 0 10 1\nfence d 0 10 0 0 1\n"
        "fence e -5 5 20 5 1")
LOW, HIGH, OUT = (5, 2, 1), (5, 8, 1), (5, -2, 1)


class TestExamples(Exact):
    def test_all(self):
        yard = Drawing(YARD)
        self.tells([needed(yard, LOW, HIGH, name)[0] for name in "abcde"], ["not", "needed", "not", "needed", "needed"])
        self.tells([needed(yard, LOW, OUT, name)[0] for name in "ae"] + [needed(yard, (20, 20, 1), (-8, 0, 1), "a")[0]],
                   ["needed", "not", "joined"])
        self.tells(shows_needed(yard, LOW, HIGH, "e", ("needed", (LOW, HIGH))), True)
        self.tells(without(yard, "e").corners, ((0, 0, 1), (0, 10, 1), (10, 0, 1), (10, 10, 1)))
        rings = ((0, 1, 3, 2), (2, 0, 1, 3), (0, 1, 2, 3))
        self.tells([shows_needed(yard, LOW, OUT, "e", ("not", ring)) for ring in rings], [True, True, False])


class TestInterface(Exact):
    def test_the_functions_are_defined_in_the_file(self):
        for function in (needed, shows_needed):
            self.assertEqual(function.__module__, "ringsorways.needed")
            self.assertIs(getattr(module, function.__name__), function)

    def test_arguments_by_name_and_equal_calls(self):
        yard = Drawing(YARD)
        told = needed(name="e", other=OUT, one=LOW, drawing=yard)
        self.tells(told, needed(Drawing(YARD), LOW, OUT, "e"))
        self.tells(shows_needed(value=told, name="e", other=OUT, one=LOW, drawing=yard), True)
        self.tells([yard.text, yard.pieces], [YARD, Drawing(YARD).pieces])


class TestErrors(Exact):
    def test_spots(self):
        yard = Drawing(YARD)
        worse = (2001, 0, 1)
        for value in [value for value in WRONG_POINTS] + [(0, 0, 1), (1, 0, 1), worse, (1, 1, 1001), (15, 5, 1)]:
            with self.subTest(value):
                for function, more in ((needed, ("a",)), (needed, ("no",)), (needed, (value,)),
                                       (shows_needed, ("a", None)), (shows_needed, (None, None))):
                    self.refuses_the_very(BadSpot, value, function, yard, value, LOW, *more)
                    self.refuses_the_very(BadSpot, value, function, yard, LOW, value, *more)
                    self.refuses_the_very(BadSpot, value, function, yard, value, worse, *more)
                    self.refuses_the_very(BadSpot, worse, function, yard, worse, value, *more)

    def test_a_spot_on_the_fence_itself(self):
        # It would be a spot without the fence, but it is none of the drawing.
        self.refuses_the_very(BadSpot, (15, 5, 1), needed, Drawing(YARD), (15, 5, 1), LOW, "e")

    def test_names(self):
        yard = Drawing(YARD)
        names = [value for value in ANY_VALUES if value != "a"]
        for value in names + ["f", "A", "ae", "a ", b"a", ("a",), ["a"], "fence a"]:
            with self.subTest(value):
                self.refuses_the_very(NoName, value, needed, yard, LOW, HIGH, value)
                self.refuses_the_very(NoName, value, needed, yard, LOW, LOW, value)
                self.refuses_the_very(NoName, value, shows_needed, yard, LOW, HIGH, value, ("needed", (LOW, HIGH)))
                self.refuses_the_very(NoName, value, needed, Drawing("drawing"), LOW, HIGH, value)


class Needed(Exact):
    def word(self, drawing, one, other, name):
        """Which word there must be, by the lands of both drawings."""
        if land_of(drawing, one) == land_of(drawing, other):
            return "joined"
        fewer = without(drawing, name)
        return "needed" if land_of(fewer, one) == land_of(fewer, other) else "not"

    def holds(self, drawing, one, other, name):
        told = needed(drawing, one, other, name)
        self.assertTrue(judge_needed(drawing, one, other, name, told), told)
        self.tells(told[0], self.word(drawing, one, other, name))
        self.tells(shows_needed(drawing, one, other, name, told), True)
        for word in ("joined", "needed", "not", "way", "ring"):
            self.tells(shows_needed(drawing, one, other, name, (word, told[1])), word == told[0])
        return told[0]


class TestDrawn(Needed):
    def test_every_fence_of_small_drawings(self):
        words = {"joined": 0, "needed": 0, "not": 0}
        for seed in range(5):
            for name, fences in kinds(seed):
                drawing = drawing_of(fences)
                spots = random_spots(fences, seed + 3, 5, 7) + spots_beside(fences, drawing.corners)[:6]
                told = [land_of(drawing, spot) for spot in spots]
                for one, other in spread(spots, told, seed, 3):
                    for fence in fences:
                        with self.subTest((name, seed, one, other, fence)):
                            words[self.holds(drawing, one, other, fence[0])] += 1
        self.assertGreater(min(words.values()), 100)

    def test_great_ones(self):
        for name, fences, far in great(9):
            drawing = drawing_of(fences)
            spots = random_spots(fences, 5, 10, far)
            told = [land_of(drawing, spot) for spot in spots]
            for one, other in spread(spots, told, 4, 2):
                for fence in fences[::9]:
                    with self.subTest((name, one, other, fence)):
                        self.holds(drawing, one, other, fence[0])

    def test_turned_mirrored_and_in_another_sequence(self):
        for seed in range(4):
            for name, fences in kinds(seed):
                drawing = drawing_of(fences)
                one, other = random_spots(fences, seed + 8, 2, 5)
                moved = in_other_sequence(fences, seed)
                called = {frozenset(fence[1:3]): fence[0] for fence in moved}
                for fence in fences:
                    with self.subTest((name, seed, fence)):
                        word = needed(drawing, one, other, fence[0])[0]
                        self.tells(needed(drawing_of(moved), one, other, called[frozenset(fence[1:3])])[0], word)
                        self.tells(needed(led_over(drawing, "turned"), turned(one), turned(other), fence[0])[0], word)
                        led = led_over(drawing, "mirrored")
                        self.tells(needed(led, mirrored(one), mirrored(other), fence[0])[0], word)


class TestShows(Exact):
    def shown(self, drawing, one, other, name, value):
        """It tells what the tests' own judgement tells."""
        told = judge_needed(drawing, one, other, name, value)
        self.tells(shows_needed(drawing, one, other, name, value), told)
        return told

    def test_values_of_any_kind(self):
        for value in ANY_VALUES + (("needed",), ("not",), ("joined",), ("needed", ()), ("not", ()), ("joined", ()),
                                   ("needed", None), ["needed", (LOW, HIGH)], ("needed", [LOW, HIGH]),
                                   ("needed", (LOW, HIGH), 1), ("way", (LOW, HIGH)), (("needed", (LOW, HIGH)),)):
            self.tells(shows_needed(Drawing(YARD), LOW, HIGH, "e", value), False)

    def test_right_ones_that_the_program_did_not_make(self):
        yard = Drawing(YARD)
        way = (LOW, HIGH)
        for _ in range(3):
            self.assertTrue(self.shown(yard, LOW, HIGH, "e", ("needed", way)))
            self.assertTrue(self.shown(yard, HIGH, LOW, "e", ("needed", way[::-1])))
            self.assertFalse(self.shown(yard, LOW, HIGH, "a", ("needed", way)))
            self.assertFalse(self.shown(yard, LOW, HIGH, "e", ("joined", way)))
            way = with_midpoints(way)
        for at in range(4):
            ring = begun_elsewhere((0, 1, 3, 2), at)
            for told in (ring, ring[::-1]):
                self.assertTrue(self.shown(yard, LOW, OUT, "e", ("not", told)))
                self.assertFalse(self.shown(yard, LOW, HIGH, "e", ("not", told)))

    def test_a_joined_pair_is_not_needed(self):
        # A way of the drawing is one without the fence, too: but the word is joined.
        yard = Drawing(YARD)
        one, other = (20, 20, 1), (20, 30, 1)
        self.assertTrue(self.shown(yard, one, other, "a", ("joined", (one, other))))
        self.assertFalse(self.shown(yard, one, other, "a", ("needed", (one, other))))
        self.assertFalse(self.shown(yard, one, other, "a", ("not", (one, other))))

    def test_rings_of_the_whole_drawing(self):
        # Told by the corners of the drawing with the fence, a ring is none of the drawing without it.
        yard = Drawing(YARD)
        corners = [yard.corners.index(corner) for corner in ((0, 0, 1), (0, 5, 1), (10, 5, 1), (10, 0, 1))]
        self.assertFalse(self.shown(yard, LOW, OUT, "e", ("not", tuple(corners))))
        self.assertTrue(self.shown(yard, LOW, OUT, "c", ("not", needed(yard, LOW, OUT, "c")[1])))

    def test_bent_in_one_place(self):
        yard = Drawing(YARD)
        for one, other, name in ((LOW, HIGH, "e"), (LOW, HIGH, "a"), (LOW, OUT, "e"), ((20, 20, 1), (-8, 0, 1), "a")):
            for value in bends(needed(yard, one, other, name)):
                with self.subTest((one, other, name, value)):
                    self.shown(yard, one, other, name, value)
        for seed in range(3):
            for kind, fences in kinds(seed):
                drawing = drawing_of(fences)
                one, other = random_spots(fences, seed + 60, 2, 5)
                for fence in fences[:2]:
                    for value in list(bends(needed(drawing, one, other, fence[0])))[::11]:
                        with self.subTest((kind, seed, fence, value)):
                            self.shown(drawing, one, other, fence[0], value)


if __name__ == "__main__":
    unittest.main()
