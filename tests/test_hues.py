"""Section 12: two hues for all lands, or a corner at which an odd number of pieces ends."""

import random
import unittest

from ringsorways import hues as module
from ringsorways.drawings import Drawing, led_over
from ringsorways.hues import shows_two_hues, two_hues
from ringsorways.lands import lands, sides
from tests.by_hand import HAND
from tests.drawn import boxes, drawing_of, great, in_other_sequence, kinds, net, priced_anew, standing, star
from tests.judge import bends
from tests.ruler import Map
from tests.support import ANY_VALUES, Exact, ends_of, slow_meet

YARD = "drawing\nfence a 0 0 10 0 1\nfence b 10 0 10 10 1\nfence c 10 10 0 10 1\nfence d 0 10 0 0 1"
CROSSED = YARD + "\nfence e -5 5 5 15 1\nfence f 5 15 15 5 1\nfence g 15 5 5 -5 1\nfence h 5 -5 -5 5 1"


def counts_of(drawing):
    """For each corner how many pieces end there, by the tests' own count."""
    return [sum((i == corner) + (j == corner) for _, i, j in drawing.pieces) for corner in range(len(drawing.corners))]


def judge_two_hues(drawing, value):
    """Whether value is right, by the words of section 12."""
    if type(value) is not tuple or len(value) != 2 or value[0] not in ("hues", "odd") or type(value[0]) is not str:
        return False
    if value[0] == "odd":
        corner = value[1]
        return type(corner) is int and 0 <= corner < len(drawing.corners) and counts_of(drawing)[corner] % 2 == 1
    plain = Map(drawing.corners, drawing.pieces)
    told = value[1]
    if type(told) is not tuple or len(told) != len(plain.rims) or any(type(hue) is not int for hue in told):
        return False
    if any(hue not in (0, 1) for hue in told):
        return False
    return all(told[one] != told[other] for one, other in map(plain.sides, range(len(drawing.pieces))))


def closed(seed, many, farthest):
    """Fences of closed lines laid over one another, at most so many, none along another one."""
    dice = random.Random(seed)
    rows = []
    while len(rows) < many - 2:
        tips = [(dice.randint(-farthest, farthest), dice.randint(-farthest, farthest))
                for _ in range(dice.randint(3, min(5, many - len(rows))))]
        more = [(tips[k - 1], tips[k]) for k in range(len(tips))]
        if standing(rows + more) == rows + more:
            rows += more
        elif dice.random() < 0.1:
            break
    return rows


class TestExamples(Exact):
    def test_all(self):
        yard = Drawing(YARD)
        self.tells([shows_two_hues(yard, ("hues", hues)) for hues in ((0, 1), (1, 0), (1, 1), (0, True))],
                   [True, True, False, False])
        empty = Drawing("drawing")
        self.tells([two_hues(yard)[0], two_hues(empty)[0], shows_two_hues(empty, ("hues", (1,)))],
                   ["hues", "hues", True])
        hung = Drawing(YARD + "\nfence e 10 10 20 20 1")
        self.tells([two_hues(hung)[0], shows_two_hues(hung, ("odd", 3)), shows_two_hues(hung, ("odd", 4)),
                    shows_two_hues(hung, ("odd", 0))], ["odd", True, True, False])
        crossed = Drawing(CROSSED)
        self.tells([two_hues(crossed)[0], len(crossed.corners)], ["hues", 8])


class TestInterface(Exact):
    def test_the_functions_are_defined_in_the_file(self):
        for function in (two_hues, shows_two_hues):
            self.assertEqual(function.__module__, "ringsorways.hues")
            self.assertIs(getattr(module, function.__name__), function)

    def test_arguments_by_name_and_equal_calls(self):
        yard = Drawing(CROSSED)
        told = two_hues(drawing=yard)
        self.tells(told, two_hues(Drawing(CROSSED)))
        self.tells(shows_two_hues(value=told, drawing=yard), True)
        self.tells([yard.text, yard.pieces], [CROSSED, Drawing(CROSSED).pieces])


class Hues(Exact):
    def holds(self, drawing):
        """What is told is right, and shown; returned is the word."""
        told = two_hues(drawing)
        self.assertTrue(judge_two_hues(drawing, told), told)
        self.tells(shows_two_hues(drawing, told), True)
        self.tells(told[0], "odd" if any(many % 2 for many in counts_of(drawing)) else "hues")
        return told[0]


class TestDrawn(Hues):
    def test_closed_lines_laid_over_one_another(self):
        longest = 0
        for seed in range(40):
            rows = closed(seed, 3 + seed, 4 + seed)
            drawing = drawing_of(priced_anew(rows, seed))
            longest = max(longest, len(drawing))
            with self.subTest(seed):
                self.tells(self.holds(drawing), "hues")
                hues = two_hues(drawing)[1]
                other = tuple(1 - hue for hue in hues)
                self.tells(shows_two_hues(drawing, ("hues", other)), True)
                for land in list(range(len(hues)))[::1 + len(hues) // 12]:
                    # One hue otherwise: each land has a piece around it if there is any.
                    bent = hues[:land] + (1 - hues[land],) + hues[land + 1:]
                    self.tells(shows_two_hues(drawing, ("hues", bent)), len(hues) == 1)
        self.assertGreater(longest, 36)

    def test_just_the_two_hues_are_right(self):
        for seed in range(12):
            drawing = drawing_of(priced_anew(closed(seed, 6, 5), seed))
            many = len(lands(drawing))
            if many < 9:
                right = [k for k in range(2 ** many)
                         if shows_two_hues(drawing, ("hues", tuple(k >> at & 1 for at in range(many))))]
                self.tells(len(right), 2)

    def test_every_kind(self):
        words = {"odd": 0, "hues": 0}
        for seed in range(10):
            for name, fences in kinds(seed):
                with self.subTest((name, seed)):
                    words[self.holds(drawing_of(fences))] += 1
        self.assertGreater(words["odd"], 50)
        self.assertGreater(words["hues"], 15)

    def test_great_ones(self):
        for name, fences, _ in great(3):
            with self.subTest(name):
                self.holds(drawing_of(fences))
        for rows, word in ((boxes(10), "hues"), (net(20, 20), "odd"), (star(36), "odd"), ([], "hues")):
            self.tells(self.holds(drawing_of(priced_anew(rows, 1))), word)

    def test_those_worked_out_by_hand(self):
        for name, hand in HAND.items():
            with self.subTest(name):
                word = self.holds(Drawing(hand["text"]))
                even = name in ("without fences", "boxes within one another", "boxes told the other way about",
                                "parts side by side in one land", "two triangles that share a corner",
                                "a part hangs on a rim from inside")
                self.tells(word, "hues" if even else "odd")

    def test_a_fence_put_on_bars_it(self):
        for seed in range(8):
            rows = closed(seed, 9, 8)
            for more in (((20, 0), (30, 0)), ((-20, 1), (20, 3)), (rows[0][0], (30, 31))):
                drawing = drawing_of(priced_anew(standing(rows + [more]), seed))
                if len(drawing) > len(rows):
                    self.tells(self.holds(drawing), "odd")

    def test_turned_mirrored_and_in_another_sequence(self):
        for seed in range(6):
            for name, fences in kinds(seed) + [("closed", priced_anew(closed(seed, 12, 7), seed))]:
                drawing = drawing_of(fences)
                word = self.holds(drawing)
                self.tells(self.holds(drawing_of(in_other_sequence(fences, seed))), word)
                for way in ("turned", "mirrored"):
                    self.tells(self.holds(led_over(drawing, way)), word)


class TestShows(Hues):
    def shown(self, drawing, value):
        """It tells what the tests' own judgement tells."""
        told = judge_two_hues(drawing, value)
        self.tells(shows_two_hues(drawing, value), told)
        return told

    def test_values_of_any_kind(self):
        for text in ("drawing", YARD, CROSSED, YARD + "\nfence e 10 10 20 20 1"):
            for value in ANY_VALUES + (("hues",), ("odd",), ("hues", ()), ("hues", None), ("odd", None), ("odd", ()),
                                       ("hues", {}), ("hues", "01"), ("hues", 0), ("odd", (3,)), ("odd", "3"),
                                       ("even", 3), ["odd", 3], ["hues", (0, 1)], ("hues", [0, 1]),
                                       ("hues", (0, 1), 0), ("odd", 3, 3), (("odd", 3),), ("hues", (0, (1,))),
                                       ("hues", {0: 0, 1: 1}), ("hues", (0, None)), ("hues", ("0", "1"))):
                self.tells(shows_two_hues(Drawing(text), value), False)

    def test_hues(self):
        yard = Drawing(YARD)
        for hues, right in (((0, 1), True), ((1, 0), True), ((0, 0), False), ((1, 1), False), ((0,), False),
                            ((0, 1, 0), False), ((0, 1, 1), False), ((0, 2), False), ((-1, 0), False),
                            ((1, 2), False), ((False, True), False), ((0, True), False), ((False, 1), False),
                            ([0, 1], False), ((0, 10 ** 12), False)):
            with self.subTest(hues):
                self.tells(self.shown(yard, ("hues", hues)), right)
        empty = Drawing("drawing")
        for hues, right in (((0,), True), ((1,), True), ((), False), ((2,), False), ((True,), False), ((0, 0), False),
                            ((0, 1), False)):
            self.tells(self.shown(empty, ("hues", hues)), right)

    def test_every_number_of_a_corner_and_some_that_are_none(self):
        for seed in range(5):
            for name, fences in kinds(seed):
                drawing = drawing_of(fences)
                many = len(drawing.corners)
                for corner in list(range(-many - 2, many + 3)) + [10 ** 12, True, False, None, "0"]:
                    with self.subTest((name, seed, corner)):
                        self.shown(drawing, ("odd", corner))

    def test_hues_where_a_corner_is_odd(self):
        # A piece with the same land on both sides bars all hues.
        for text in ("drawing\nfence a 0 0 3 0 1", YARD + "\nfence e 10 10 20 20 1", YARD + "\nfence e 0 0 3 3 1"):
            drawing = Drawing(text)
            for hues in ((0,), (1,), (0, 1), (1, 0), (0, 0)):
                self.tells(self.shown(drawing, ("hues", hues)), False)
        # Three lands about a corner: two of them always have one hue.
        halves = Drawing(YARD + "\nfence e 5 0 5 10 1")
        for k in range(8):
            self.tells(self.shown(halves, ("hues", (k & 1, k >> 1 & 1, k >> 2))), False)

    def test_bent_in_one_place(self):
        for drawing in (Drawing(YARD), Drawing(CROSSED), Drawing(YARD + "\nfence e 10 10 20 20 1")):
            for value in bends(two_hues(drawing)):
                with self.subTest(value):
                    self.shown(drawing, value)
        for seed in range(4):
            for name, fences in kinds(seed) + [("closed", priced_anew(closed(seed, 9, 6), seed))]:
                drawing = drawing_of(fences)
                for value in list(bends(two_hues(drawing)))[::2]:
                    with self.subTest((name, seed, value)):
                        self.shown(drawing, value)

    def test_the_sides_are_those_of_section_6(self):
        for seed in range(4):
            drawing = drawing_of(priced_anew(closed(seed, 14, 9), seed))
            hues = two_hues(drawing)[1]
            for piece in range(len(drawing.pieces)):
                left, right = sides(drawing, piece)
                self.assertNotEqual(hues[left], hues[right])
            for a in drawing.fences:
                for b in drawing.fences:
                    self.assertTrue(a is b or slow_meet(*ends_of(a), *ends_of(b)) != ("along",))


if __name__ == "__main__":
    unittest.main()
