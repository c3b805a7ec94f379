"""Section 14: an end that is led."""

import random
import unittest
from fractions import Fraction

from ringsorways import led as module
from ringsorways.drawings import Drawing, led_over
from ringsorways.errors import Along, BadEnd, BadPoint, BadSpot, NoName, Same, Through
from ringsorways.led import moments, parted_when, swept
from ringsorways.parting import parting
from ringsorways.spots import land_of
from tests.drawn import box, crossing, drawing_of, in_other_sequence, kinds, net, priced_anew, random_spots, standing
from tests.leading import Leading, pair, right_leads, some_leads
from tests.ruler import mirrored, turned
from tests.support import ANY_VALUES, WRONG_POINTS, Exact, ends_of, slow_lies_on

YARD = "drawing\nfence s 0 0 4 0 1\nfence e 4 0 4 4 2\nfence n 4 4 0 4 1\nfence gate 0 4 -4 0 3"
GATE = ("gate", 1, (4, -4, 1))
WITHIN, OUT = (2, 2, 1), (6, 2, 1)


def drawing(*rows):
    return Drawing("\n".join(["drawing"] + ["fence " + row for row in rows]))


class TestExamples(Exact):
    def test_all(self):
        yard = Drawing(YARD)
        self.tells([moments(yard, *GATE), swept(yard, *GATE, WITHIN)], [((1, 2),), ()])
        self.tells(parted_when(yard, *GATE, WITHIN, OUT), (((0, 1), (1, 2), False), ((1, 2), (1, 1), True)))
        self.tells(parted_when(yard, *GATE, (1, 1, 1), (3, 3, 1)),
                   (((0, 1), (1, 2), False), ((1, 2), (4, 5), False), ((4, 5), (1, 1), True)))

    def test_what_is_told_below(self):
        yard = Drawing(YARD)
        self.tells(swept(yard, *GATE, (1, 1, 1)), ((4, 5),))
        self.tells(land_of(drawing("s 0 0 4 0 1", "e 4 0 4 4 2", "n 4 4 0 4 1", "gate 0 4 4 -4 3"), (3, 3, 1)), 1)


class TestInterface(Exact):
    def test_the_functions_are_defined_in_the_file(self):
        for function in (moments, swept, parted_when):
            self.assertEqual(function.__module__, "ringsorways.led")
            self.assertIs(getattr(module, function.__name__), function)

    def test_arguments_by_name_and_equal_calls(self):
        yard = Drawing(YARD)
        named = {"point": GATE[2], "end": 1, "name": "gate", "drawing": yard}
        self.tells(moments(**named), moments(Drawing(YARD), *GATE))
        self.tells(swept(spot=(1, 1, 1), **named), swept(Drawing(YARD), *GATE, (1, 1, 1)))
        self.tells(parted_when(other=OUT, one=WITHIN, **named), parted_when(Drawing(YARD), *GATE, WITHIN, OUT))
        self.tells([yard.text, yard.pieces], [YARD, Drawing(YARD).pieces])


class TestErrors(Exact):
    """Each error with its value; all three functions raise the same for what they have in common."""

    def refused(self, error, value, told, name, end, point, spots=((9, 9, 1), (8, 8, 1))):
        self.refuses(error, value, moments, told, name, end, point)
        self.refuses(error, value, swept, told, name, end, point, spots[0])
        self.refuses(error, value, parted_when, told, name, end, point, *spots)

    def test_names(self):
        yard = Drawing(YARD)
        for name in [value for value in ANY_VALUES if value != "a"] + ["a", "S", "s ", "gat", b"s", ("s",), ["gate"]]:
            with self.subTest(name):
                for end, point in ((1, (4, -4, 1)), (2, (4, -4, 1)), (True, None), (None, [0, 0, 1])):
                    self.refused(NoName, name, yard, name, end, point)
                self.refused(NoName, name, Drawing("drawing"), name, 1, (4, -4, 1))

    def test_ends(self):
        yard = Drawing(YARD)
        for end in [value for value in ANY_VALUES if type(value) is not int or value not in (0, 1)] + [2, -1, "0", (0,),
                                                                                                  (-4, 0), "first"]:
            with self.subTest(end):
                self.refused(BadEnd, end, yard, "gate", end, (4, -4, 1))
                self.refused(BadEnd, end, yard, "gate", end, None)
                self.refused(BadEnd, end, yard, "gate", end, (0, 4, 1))
                self.refused(BadEnd, end, yard, "s", end, (0, 0, 2), (None, None))

    def test_points(self):
        yard = Drawing(YARD)
        wrong = list(WRONG_POINTS) + [(1, 1, 2), (1, 0, 3), (1001, 0, 1), (0, -1001, 1), (0, 1001, 1), (-1001, 5, 1),
                                      (0, 4), "4 -4", (4, -4, True), [4, -4, 1], (-8, 0, 2)]
        for point in wrong:
            with self.subTest(point):
                for end in (0, 1):
                    self.refused(BadPoint, point, yard, "gate", end, point)
                    self.refused(BadPoint, point, yard, "gate", end, point, (None, point))
        for point in ((1000, 1000, 1), (-1000, 1000, 1), (1000, -1000, 1)):
            self.assertIs(type(moments(yard, "gate", 1, point)), tuple)

    def test_same(self):
        yard = Drawing(YARD)
        for name, end, point in (("gate", 1, (-4, 0, 1)), ("gate", 0, (0, 4, 1)), ("s", 0, (0, 0, 1)),
                                 ("s", 1, (4, 0, 1))):
            self.refused(Same, (point, point), yard, name, end, point)
            self.refused(Same, (point, point), yard, name, end, point, (None, (0, 0, 1)))

    def test_through(self):
        yard = Drawing(YARD)
        for name, end, point in (("gate", 1, (0, 4, 1)), ("gate", 1, (4, 8, 1)), ("gate", 1, (1, 5, 1)),
                                 ("gate", 0, (-4, 0, 1)), ("gate", 0, (-5, -1, 1)), ("s", 0, (4, 0, 1)),
                                 ("s", 0, (5, 0, 1)), ("s", 1, (0, 0, 1)), ("s", 1, (-1000, 0, 1)),
                                 ("e", 0, (4, 900, 1)), ("n", 0, (-7, 4, 1))):
            with self.subTest((name, end, point)):
                self.refused(Through, name, yard, name, end, point)
        # Back towards the other end, but not so far; and on beyond.
        for name, end, point in (("gate", 1, (-1, 3, 1)), ("gate", 1, (-8, -4, 1)), ("s", 0, (3, 0, 1)),
                                 ("s", 1, (900, 0, 1)), ("gate", 0, (-3, 1, 1))):
            self.assertIs(type(moments(yard, name, end, point)), tuple)

    def test_along(self):
        yard = Drawing(YARD)
        for name, end, point, value in (("gate", 1, (1, 4, 1), ("n", "gate")), ("gate", 1, (9, 4, 1), ("n", "gate")),
                                        ("s", 0, (4, 1, 1), ("s", "e")), ("e", 0, (0, 4, 1), ("e", "n")),
                                        ("n", 0, (0, 3, 1), None), ("e", 1, (2, 0, 1), ("s", "e")),
                                        ("n", 0, (-4, 0, 1), ("n", "gate")), ("n", 1, (4, 2, 1), ("e", "n"))):
            with self.subTest((name, end, point)):
                if value is None:
                    self.assertIs(type(moments(yard, name, end, point)), tuple)
                else:
                    self.refused(Along, value, yard, name, end, point)
                    self.refused(Along, value, yard, name, end, point, (None, None))

    def test_along_the_first_two(self):
        rows = ("a 0 0 1 0 1", "b 2 0 3 0 1", "c 9 0 9 9 1", "d 4 0 5 0 1", "e 6 0 7 0 1")
        told = drawing(*rows)
        # c comes to lie along all others: the first of them is named, ahead of c.
        self.refused(Along, ("a", "c"), told, "c", 1, (0, 0, 1))
        self.refused(Along, ("b", "c"), told, "c", 1, (2, 0, 1))
        self.refused(Along, ("d", "c")[::-1], told, "c", 1, (4, 0, 1))
        self.refused(Along, ("c", "e"), told, "c", 1, (6, 0, 1))
        self.tells(moments(told, "c", 1, (7, 0, 1)), ())
        backward = drawing(*rows[::-1])
        self.refused(Along, ("e", "c"), backward, "c", 1, (0, 0, 1))
        self.refused(Along, ("e", "c"), backward, "c", 1, (6, 0, 1))
        between = drawing(rows[4], rows[0], rows[2], rows[3], rows[1])
        self.refused(Along, ("e", "c"), between, "c", 1, (0, 0, 1))
        self.refused(Along, ("a", "c"), drawing(rows[0], rows[2], rows[3], rows[1]), "c", 1, (0, 0, 1))
        self.refused(Along, ("c", "d"), drawing(rows[0], rows[2], rows[3], rows[1]), "c", 1, (2, 0, 1))

    def test_spots(self):
        yard = Drawing(YARD)
        good = (9, 9, 1)
        # On a fence that stays, on the led one at the time 0, on it at the time 1, at its end then.
        wrong = list(WRONG_POINTS) + [(2, 0, 1), (-2, 2, 1), (-4, 0, 1), (1, 2, 1), (3, -2, 1), (4, -4, 1), (2, 0, 1),
                                      (2001, 0, 1), (0, -2001, 1), (1, 1, 1001), (0, 4, 1)]
        for spot in wrong:
            with self.subTest(spot):
                self.refuses_the_very(BadSpot, spot, swept, yard, *GATE, spot)
                self.refuses_the_very(BadSpot, spot, parted_when, yard, *GATE, spot, good)
                self.refuses_the_very(BadSpot, spot, parted_when, yard, *GATE, good, spot)
                self.refuses_the_very(BadSpot, spot, parted_when, yard, *GATE, spot, (2002, 0, 1))
                self.refuses_the_very(BadSpot, (2002, 0, 1), parted_when, yard, *GATE, (2002, 0, 1), spot)
        # The fence goes over this one, but it does not lie there at either end of time.
        self.tells(swept(yard, *GATE, (1, 1, 1)), ((4, 5),))

    def test_a_spot_that_is_one_at_one_time_only(self):
        yard = Drawing(YARD)
        later = drawing("s 0 0 4 0 1", "e 4 0 4 4 2", "n 4 4 0 4 1", "gate 0 4 4 -4 3")
        self.tells([land_of(later, (-2, 2, 1)), land_of(yard, (1, 2, 1))], [0, 0])
        for spot in ((-2, 2, 1), (1, 2, 1)):
            self.refuses(BadSpot, spot, swept, yard, *GATE, spot)
            self.refuses(BadSpot, spot, parted_when, yard, *GATE, spot, spot)

    def test_several_at_once(self):
        yard = Drawing(YARD)
        self.refused(NoName, "x", yard, "x", 7, None, (None, None))
        self.refused(BadEnd, 7, yard, "s", 7, None, (None, None))
        self.refused(BadEnd, True, yard, "gate", True, (-4, 0, 1))
        self.refused(BadEnd, False, yard, "gate", False, (0, 4, 1), (None, None))
        self.refused(BadPoint, (0, 4, 2), yard, "gate", 0, (0, 4, 2), (None, None))
        # Through its own end, and along another fence at the time 1.
        self.refused(Through, "gate", drawing("s 4 8 5 9 1", "gate 0 4 -4 0 3"), "gate", 1, (5, 9, 1), (None, None))
        self.refused(Through, "a", drawing("a 0 0 4 0 1", "b -9 0 -3 0 1"), "a", 1, (-9, 0, 1), ((1, 0, 1), None))
        self.refused(Along, ("a", "b"), drawing("a 0 0 4 0 1", "b 6 0 7 0 1"), "a", 1, (9, 0, 1), ((1, 0, 1), None))
        # Of two spots the first one is told, even if just the second one is no point at all.
        self.refuses(BadSpot, (1, 2, 1), parted_when, yard, *GATE, (1, 2, 1), None)
        self.refuses(BadSpot, None, parted_when, yard, *GATE, None, (1, 2, 1))

    def test_drawn_ones(self):
        counts = {None: 0, Same: 0, Through: 0, Along: 0}
        for seed in range(8):
            for name, fences in kinds(seed):
                told = drawing_of(fences)
                for lead in some_leads(fences, seed, 12, 7):
                    due = Leading(fences, *lead).error()
                    counts[due and due[0]] += 1
                    with self.subTest((name, seed, lead)):
                        if due is None:
                            self.assertIs(type(moments(told, *lead)), tuple)
                        else:
                            self.refused(*due, told, *lead)
        self.assertGreater(min(counts.values()), 25)


class Led(Exact):
    def holds(self, lead, told=None):
        """The moments are those of the tests' own sums."""
        told = told or drawing_of(lead.fences)
        found = moments(told, lead.name, lead.end, lead.point)
        self.tells(found, tuple(pair(time) for time in lead.moments()))
        return [Fraction(*time) for time in found]

    def parts(self, lead, one, other, shares=(Fraction(1, 2), Fraction(1, 19))):
        """What is told of two spots is so by the tests' own half lines, at some times of each stretch."""
        told = parted_when(drawing_of(lead.fences), lead.name, lead.end, lead.point, one, other)
        self.tells([row[:2] for row in told], [(pair(low), pair(high)) for low, high in lead.stretches(one, other)])
        for low, high, is_parted in told:
            self.assertIs(type(is_parted), bool)
            low, high = Fraction(*low), Fraction(*high)
            for share in shares:
                self.tells(is_parted, lead.is_parted(low + share * (high - low), one, other))
        return [row[2] for row in told]


class TestMoments(Led):
    def test_drawn_ones(self):
        many = 0
        for seed in range(10):
            for name, fences in kinds(seed):
                for lead in right_leads(fences, seed, 7, 3 + seed):
                    with self.subTest((name, seed, lead.name, lead.end, lead.point)):
                        many += len(self.holds(lead))
        self.assertGreater(many, 500)

    def test_between_moments_the_same_touches(self):
        for seed in range(5):
            for name, fences in kinds(seed):
                for lead in right_leads(fences, seed + 50, 5, 6):
                    times = [Fraction(0)] + self.holds(lead) + [Fraction(1)]
                    sets = []
                    for low, high in zip(times, times[1:]):
                        within = [lead.touches(low + share * (high - low))
                                  for share in (Fraction(1, 1000), Fraction(1, 3), Fraction(5, 8), Fraction(999, 1000))]
                        self.assertTrue(all(touched == within[0] for touched in within))
                        sets.append(within[0])
                    for before, time, behind in zip(sets, times[1:], sets[1:]):
                        now = lead.touches(time)
                        self.assertTrue(now != before or now != behind)

    def test_great_ones(self):
        rows = (priced_anew(net(6, 6), 1), priced_anew(crossing(5, 14, 900), 2), priced_anew(crossing(6, 9, 60), 3))
        for fences, far in zip(rows, (20, 900, 60)):
            found = 0
            for lead in right_leads(fences, 4, 5, far):
                found += len(self.holds(lead))
            self.assertGreater(found, 10)

    def test_corners_of_other_fences(self):
        # The led fence goes over the end of one, over the crossing of two, over a point where three meet.
        rows = ("a 0 0 10 0 1", "b 6 4 9 4 1", "c 2 1 2 5 1", "d 1 3 3 3 1", "e 1 2 3 4 1")
        lead = Leading(drawing(*rows).fences, "a", 1, (0, 10, 1))
        self.assertIn((2, 3, 1), lead.corners)
        found = self.holds(lead)
        self.assertIn(Fraction(3, 5), found)
        self.assertIn((2, 3, 1), lead.touches(Fraction(3, 5)))

    def test_crossings_alone(self):
        lead = Leading(drawing("a 0 0 20 0 1", "b 3 2 5 4 1", "c 3 4 5 2 1").fences, "a", 1, (0, 20, 1))
        found = self.holds(lead)
        self.tells(len(found), 5)
        self.assertIn(Fraction(3, 7), found)

    def test_a_crossing_with_the_led_fence_is_none(self):
        # The led fence crosses b all the while: no corner of the others alone lies there.
        self.tells(moments(drawing("a 0 0 0 10 1", "b -9 5 9 5 1"), "a", 1, (3, 10, 1)), ())
        self.tells(moments(drawing("a 0 0 0 10 1", "b -9 5 2 5 1"), "a", 1, (3, 10, 1)), ())
        self.tells(moments(drawing("a 0 0 0 10 1", "b -9 5 1 5 1"), "a", 1, (3, 10, 1)), ((2, 3),))

    def test_the_end_goes_over_a_fence(self):
        self.tells(moments(drawing("a 0 0 0 10 1", "b 2 5 2 15 1"), "a", 1, (4, 10, 1)), ((1, 2),))
        # It comes as far as its end, but not over it; and not so far.
        self.tells(moments(drawing("a 0 0 0 10 1", "b 2 10 2 15 1"), "a", 1, (4, 10, 1)), ((1, 2),))
        self.tells(moments(drawing("a 0 0 0 10 1", "b 2 11 2 15 1"), "a", 1, (4, 10, 1)), ())

    def test_the_end_goes_along_a_fence(self):
        told = drawing("a 0 0 0 10 1", "b 2 10 6 10 1")
        self.tells(moments(told, "a", 1, (8, 10, 1)), ((1, 4), (3, 4)))
        self.tells(moments(told, "a", 1, (4, 10, 1)), ((1, 2),))
        self.tells(moments(told, "a", 1, (6, 10, 1)), ((1, 3),))
        self.tells(moments(told, "a", 1, (2, 10, 1)), ())
        # Other fences that it comes by on its way along b.
        more = drawing("a 0 0 0 10 1", "b -2 10 16 10 1", "c 4 10 4 20 1", "d 5 5 5 15 1", "e 6 1 6 20 1")
        self.tells(moments(more, "a", 1, (8, 10, 1)), ((1, 2), (5, 8), (3, 4)))

    def test_the_led_fence_stays_on_its_line(self):
        rows = ("a 0 0 1 0 1", "b 3 0 3 3 1", "c 5 -1 5 1 1", "d 6 1 8 -1 1", "e 8 2 8 1 1")
        self.tells(moments(drawing(*rows), "a", 1, (9, 0, 1)), ((1, 4), (1, 2), (3, 4)))
        longer = drawing("a 0 0 9 0 1", *rows[1:])
        self.tells(moments(longer, "a", 1, (1, 0, 1)), ((1, 4), (1, 2), (3, 4)))
        self.tells(moments(longer, "a", 1, (5, 0, 1)), ((1, 2),))
        self.tells(moments(drawing("a 9 0 0 0 1", *rows[1:]), "a", 0, (3, 0, 1)), ((1, 3), (2, 3)))
        # A crossing of two others on the line.
        self.tells(moments(drawing("a 0 0 1 0 1", "b 2 1 4 -1 1", "c 2 -1 4 1 1"), "a", 1, (5, 0, 1)), ((1, 2),))

    def test_the_led_fence_lies_along_another_one_at_one_time(self):
        for row in ("b 1 1 2 2 1", "b 3 3 9 9 1", "b -3 -3 9 9 1", "b 0 0 2 2 1", "b 0 0 9 9 1", "b -2 -2 1 1 1",
                    "b 5 5 6 6 1", "b -1 -1 5 5 1", "b 2 2 5 5 1"):
            with self.subTest(row):
                lead = Leading(drawing("a 0 0 10 0 1", row).fences, "a", 1, (0, 10, 1))
                self.tells(self.holds(lead), [Fraction(1, 2)])
        for row in ("b 6 6 9 9 1", "b -2 -2 0 0 1", "b -9 -9 -1 -1 1"):
            self.tells(moments(drawing("a 0 0 10 0 1", row), "a", 1, (0, 10, 1)), ())

    def test_other_fences_at_the_other_end(self):
        # What stands at the end that stays touches all the while.
        for row in ("b 0 0 -3 -3 1", "b -3 0 3 0 1", "b -3 5 0 0 1", "b 3 -3 -3 3 1"):
            self.tells(moments(drawing("a 0 0 3 9 1", row), "a", 1, (-3, 9, 1)), ())

    def test_at_the_times_0_and_1(self):
        # The end leaves b at once, and comes on c at last: there is no moment at 0, nor at 1.
        told = drawing("a 0 0 0 10 1", "b -5 10 0 10 1", "c 8 2 8 12 1")
        self.tells(moments(told, "a", 1, (8, 10, 1)), ())
        self.tells(moments(told, "a", 1, (-4, 10, 1)), ())
        # Over a corner at last, and from a corner at first.
        self.tells(moments(drawing("a 0 0 0 10 1", "b 0 5 -3 5 1", "c 4 5 9 5 1"), "a", 1, (8, 10, 1)), ())
        self.tells(moments(drawing("a 0 0 0 10 1", "b 0 5 3 5 1", "c 4 5 9 5 1"), "a", 1, (8, 10, 1)), ((3, 4),))
        self.tells(moments(drawing("a 0 0 0 10 1", "b -3 10 3 10 1"), "a", 1, (6, 10, 1)), ((1, 2),))

    def test_in_two_steps_and_back(self):
        for seed in range(8):
            for name, fences in kinds(seed):
                for lead in right_leads(fences, seed + 20, 6, 6):
                    there = self.holds(lead)
                    later = lead.fences_at(1)
                    back = Leading(later, lead.name, lead.end, lead.start + (1,))
                    with self.subTest((name, seed, lead.name, lead.end, lead.point)):
                        self.tells(back.error(), None)
                        self.tells(self.holds(back), [1 - time for time in there[::-1]])
                        middle = lead.tip(Fraction(1, 2))
                        if all(at.denominator == 1 for at in middle):
                            self.in_two_steps(lead, there, tuple(int(at) for at in middle))

    def in_two_steps(self, lead, there, middle):
        first = Leading(lead.fences, lead.name, lead.end, middle + (1,))
        if first.error() is None:
            second = Leading(first.fences_at(1), lead.name, lead.end, lead.point)
            steps = [time / 2 for time in self.holds(first)] + [(1 + time) / 2 for time in self.holds(second)]
            self.tells(steps, [time for time in there if time != Fraction(1, 2)])

    def test_turned_mirrored_and_in_another_sequence(self):
        for seed in range(6):
            for name, fences in kinds(seed):
                for lead in right_leads(fences, seed + 70, 3, 6):
                    told = drawing_of(fences)
                    found = moments(told, lead.name, lead.end, lead.point)
                    for word, other in (("turned", turned), ("mirrored", mirrored)):
                        self.tells(moments(led_over(told, word), lead.name, lead.end, other(lead.point)), found)
                    moved = in_other_sequence(fences, seed)
                    fence = next(row for row in moved if set(row[1:3]) == {lead.fixed, lead.start})
                    end = 0 if fence[1] == lead.start else 1
                    self.tells(moments(drawing_of(moved), fence[0], end, lead.point), found)


class TestSwept(Led):
    def test_drawn_ones(self):
        counts = [0, 0]
        for seed in range(8):
            for name, fences in kinds(seed):
                for lead in right_leads(fences, seed + 5, 5, 8):
                    told = drawing_of(fences)
                    spots = [spot for spot in random_spots(fences, seed, 12, 6) if lead.is_spot(spot)]
                    for spot in spots:
                        with self.subTest((name, seed, lead.name, lead.end, lead.point, spot)):
                            found = swept(told, lead.name, lead.end, lead.point, spot)
                            self.tells(found, tuple(pair(time) for time in lead.swept(spot)))
                            counts[len(found)] += 1
                            if found:
                                tip = lead.tip(Fraction(*found[0]))
                                led = (lead.name, lead.fixed, tip, 1)
                                self.assertTrue(slow_lies_on(*ends_of(led), spot))
        self.assertGreater(min(counts), 150)

    def test_the_tip_itself_goes_over_a_spot(self):
        told = drawing("a 0 0 0 10 1")
        self.tells(swept(told, "a", 1, (8, 10, 1), (2, 10, 1)), ((1, 4),))
        self.tells(swept(told, "a", 1, (8, 10, 1), (1, 30, 3)), ((1, 24),))
        self.tells(swept(told, "a", 1, (8, 10, 1), (2, 11, 1)), ())
        self.tells(swept(told, "a", 1, (8, 10, 1), (-2, 9, 1)), ())
        self.tells(swept(told, "a", 1, (8, 10, 1), (9, 9, 1)), ())

    def test_spots_on_the_line_of_the_fence(self):
        told = drawing("a 0 0 0 10 1")
        self.tells(swept(told, "a", 1, (0, 4, 1), (0, 12, 1)), ())
        self.tells(swept(told, "a", 1, (0, 4, 1), (0, -1, 1)), ())
        self.refuses(BadSpot, (0, 5, 1), swept, told, "a", 1, (0, 4, 1), (0, 5, 1))
        self.refuses(BadSpot, (0, 12, 1), swept, told, "a", 1, (0, 14, 1), (0, 12, 1))
        # Behind the end that stays.
        self.tells(swept(told, "a", 1, (8, 10, 1), (-1, -2, 1)), ())


class TestParted(Led):
    def test_drawn_ones(self):
        counts = {True: 0, False: 0}
        both = 0
        for seed in range(5):
            for name, fences in kinds(seed):
                if len(fences) > 12:
                    continue
                for lead in right_leads(fences, seed + 31, 2, 6):
                    spots = [spot for spot in random_spots(fences, seed + 2, 8, 5) if lead.is_spot(spot)]
                    for one, other in zip(spots[:2], spots[1:]):
                        with self.subTest((name, seed, lead.name, lead.end, lead.point, one, other)):
                            told = self.parts(lead, one, other)
                            both += len(set(told)) == 2
                            for is_parted in told:
                                counts[is_parted] += 1
        self.assertGreater(min(counts.values()), 60)
        self.assertGreater(both, 5)

    def test_by_the_drawings_themselves(self):
        # Made greater, such that the led end stands on a whole point at a time in the stretch.
        looked = 0
        for seed in range(8):
            for name, fences in kinds(seed):
                for lead in right_leads(fences, seed + 90, 3, 5):
                    spots = [spot for spot in random_spots(fences, seed, 6, 5) if lead.is_spot(spot)]
                    if len(spots) < 2:
                        continue
                    told = parted_when(drawing_of(fences), lead.name, lead.end, lead.point, *spots[:2])
                    for low, high, is_parted in told:
                        looked += self.looked_at(lead, Fraction(*low), Fraction(*high), is_parted, spots[:2])
        self.assertGreater(looked, 150)

    def looked_at(self, lead, low, high, is_parted, spots):
        """Whether a simple time lies in this stretch; the Drawing at this time, made greater, then tells the same."""
        for scale in range(2, 40):
            for top in range(1, scale):
                if low < Fraction(top, scale) < high:
                    greater = [(name, *[tuple(int(at * scale) for at in end) for end in (a, b)], price)
                               for name, a, b, price in lead.fences_at(Fraction(top, scale))]
                    if max(abs(at) for fence in greater for end in fence[1:3] for at in end) > 1000:
                        return False
                    far = [Fraction(at[k] * scale, at[2]) for at in spots for k in (0, 1)]
                    if max(map(abs, far)) > 2000:
                        return False
                    moved = [self.greater(spot, scale) for spot in spots]
                    self.tells(is_parted, parting(drawing_of(greater), *moved)[0] == "ring")
                    return True
        return False

    def greater(self, spot, scale):
        x, y = Fraction(spot[0] * scale, spot[2]), Fraction(spot[1] * scale, spot[2])
        bottom = max(x.denominator, y.denominator)
        while (x * bottom).denominator > 1 or (y * bottom).denominator > 1:
            bottom += 1
        return (int(x * bottom), int(y * bottom), bottom)

    def test_without_any_ring(self):
        for text in ("a 0 0 4 4 1", "a 0 0 4 4 1|b -3 2 9 2 1|c 5 5 9 9 1"):
            told = drawing(*text.split("|"))
            rows = parted_when(told, "a", 1, (-4, 4, 1), (1, 9, 2), (1, -9, 2))
            self.assertTrue(rows)
            self.tells([row[2] for row in rows], [False] * len(rows))
            self.tells([rows[0][0], rows[-1][1]], [(0, 1), (1, 1)])

    def test_a_spot_and_itself(self):
        yard = Drawing(YARD)
        self.tells(parted_when(yard, *GATE, (1, 1, 1), (1, 1, 1)),
                   (((0, 1), (1, 2), False), ((1, 2), (4, 5), False), ((4, 5), (1, 1), False)))

    def test_a_door_that_is_led_along_a_wall(self):
        # The wall on the right has a gap between (6, 2) and (6, 4); the door hangs at (6, 4).
        walls = ("s 0 0 6 0 1", "r 6 0 6 2 1", "q 6 4 6 6 1", "n 6 6 0 6 1", "w 0 6 0 0 1")
        open_room = drawing(*walls, "door 6 4 9 4 1")
        within, out = (3, 3, 1), (20, 3, 1)
        # Led from the right to below, it comes on the corner (6, 2) at last, at the time 1 alone.
        self.tells(parted_when(open_room, "door", 1, (6, 2, 1), within, out), (((0, 1), (1, 1), False),))
        # Led on into the room, it goes over the corner on the way.
        self.tells(parted_when(open_room, "door", 1, (5, -1, 1), within, out),
                   (((0, 1), (3, 4), False), ((3, 4), (4, 5), False), ((4, 5), (1, 1), True)))
        self.parts(Leading(open_room.fences, "door", 1, (5, -1, 1)), within, out)
        # Its end along the wall s: the room is cut in two, shut on the one side all the while.
        shut = drawing(*walls, "door 6 4 4 0 1")
        told = parted_when(shut, "door", 1, (1, 0, 1), (1, 5, 1), (5, 1, 1))
        self.tells(told, (((0, 1), (1, 1), True),))
        told = parted_when(shut, "door", 1, (1, 0, 1), (3, 1, 1), (20, 3, 1))
        self.tells(told, (((0, 1), (2, 3), True), ((2, 3), (1, 1), False)))
        self.parts(Leading(shut.fences, "door", 1, (1, 0, 1)), (3, 1, 1), (20, 3, 1))
        # Pulled out of the gap along its own line.
        bolt = drawing(*walls, "bolt 6 4 6 2 1")
        self.tells(parted_when(bolt, "bolt", 1, (6, 3, 1), within, out), (((0, 1), (1, 1), False),))
        self.tells(parted_when(drawing(*walls, "bolt 6 4 6 3 1"), "bolt", 1, (6, 2, 1), within, out),
                   (((0, 1), (1, 1), False),))
        self.tells(parted_when(drawing(*walls, "bolt 9 3 6 3 1", "t 7 2 6 2 1", "u 7 4 6 4 1", "v 7 2 7 4 1"),
                               "bolt", 1, (8, 3, 1), within, out), (((0, 1), (1, 2), True), ((1, 2), (1, 1), True)))

    def test_doors_in_drawn_rooms(self):
        words = set()
        for seed in range(12):
            dice = random.Random(seed)
            rows = standing(box(0, 8)[1:] + [((0, 0), (3, 0)), ((5, 0), (8, 0)), ((4, 0), (4, 8))])
            door = ((3, 0), (3, dice.choice((-2, 2))))
            fences = priced_anew(rows + [door], seed)
            for goal in ((5, 0), (5, dice.randint(-1, 1)), (7, -1), (4, 1), (5, 2)):
                lead = Leading(fences, fences[-1][0], 1, goal + (1,))
                if lead.error() is None:
                    words |= set(self.parts(lead, (1, 1, 1), (20, 1, 1)))
                    words |= set(self.parts(lead, (7, 1, 1), (1, 7, 1)))
        self.tells(words, {True, False})

    def test_forth_and_back(self):
        for seed in range(4):
            for name, fences in kinds(seed):
                for lead in right_leads(fences, seed + 44, 3, 6):
                    spots = [spot for spot in random_spots(fences, seed + 1, 6, 5) if lead.is_spot(spot)][:2]
                    if len(spots) == 2:
                        there = parted_when(drawing_of(fences), lead.name, lead.end, lead.point, *spots)
                        back = parted_when(drawing_of(lead.fences_at(1)), lead.name, lead.end, lead.start + (1,),
                                           *spots[::-1])
                        bent = [(1 - Fraction(*high), 1 - Fraction(*low), told) for low, high, told in back[::-1]]
                        self.tells([(Fraction(*low), Fraction(*high), told) for low, high, told in there], bent)

    def test_a_great_one(self):
        fences = priced_anew(net(5, 5), 3)
        lead = Leading(fences, fences[0][0], 0, (5, 30, 1))
        self.tells(lead.error(), None)
        told = self.parts(lead, (4, 4, 1), (40, 40, 1), (Fraction(1, 3),))
        self.assertGreater(len(told), 10)
        self.tells(set(told), {True, False})

    def test_turned_mirrored_and_in_another_sequence(self):
        for seed in range(4):
            for name, fences in kinds(seed):
                for lead in right_leads(fences, seed + 12, 3, 6):
                    spots = [spot for spot in random_spots(fences, seed + 3, 6, 5) if lead.is_spot(spot)][:2]
                    if len(spots) < 2:
                        continue
                    told = drawing_of(fences)
                    found = parted_when(told, lead.name, lead.end, lead.point, *spots)
                    for word, other in (("turned", turned), ("mirrored", mirrored)):
                        self.tells(parted_when(led_over(told, word), lead.name, lead.end, other(lead.point),
                                               *map(other, spots)), found)
                    again = drawing_of(fences[::-1])
                    self.tells(parted_when(again, lead.name, lead.end, lead.point, *spots), found)


if __name__ == "__main__":
    unittest.main()
