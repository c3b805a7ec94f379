"""Section 4: side, meet, between, inside."""

import itertools
import random
import unittest

from ringsorways import plane
from ringsorways.errors import BadPoint, BadRing, BadShare, OnLine, Same
from ringsorways.plane import between, inside, meet, side
from tests.support import (
    ANY_VALUES, WRONG_POINTS, Exact, place, point_of, slow_inside, slow_meet, slow_side, whole,
)

HUGE = 10 ** 12 - 1
SQUARE = ((0, 0, 1), (4, 0, 1), (4, 4, 1), (0, 4, 1))


def some_points(dice, many, farthest, bottoms):
    """So many points, near one another, so that they often lie in line."""
    found = []
    for _ in range(many):
        bottom = dice.choice(bottoms)
        x, y = dice.randint(-farthest, farthest), dice.randint(-farthest, farthest)
        found.append(point_of(*[place((v, 0, bottom))[0] for v in (x, y)]))
    return found


class TestExamples(Exact):
    def test_side(self):
        told = [
            side((0, 0, 1), (2, 0, 1), (1, 1, 2)), side((0, 0, 1), (2, 0, 1), (1, -1, 1)),
            side((0, 0, 1), (2, 0, 1), (7, 0, 2)),
        ]
        self.tells(told, [1, -1, 0])

    def test_meet(self):
        told = [meet((0, 0, 1), (4, 4, 1), (0, 4, 1), (4, 0, 1)), meet((0, 0, 1), (3, 0, 1), (1, -1, 1), (2, 2, 1))]
        self.tells(told, [("cross", (2, 2, 1)), ("cross", (4, 0, 3))])
        told = [meet((0, 0, 1), (2, 0, 1), (1, 0, 1), (1, 5, 1)), meet((0, 0, 1), (1, 0, 1), (1, 0, 1), (3, 0, 1))]
        self.tells(told, [("touch", (1, 0, 1)), ("touch", (1, 0, 1))])
        told = [meet((0, 0, 1), (2, 0, 1), (1, 0, 1), (3, 0, 1)), meet((0, 0, 1), (2, 0, 1), (3, 0, 1), (3, 5, 1))]
        self.tells(told, [("along",), ("none",)])

    def test_between(self):
        told = [between((0, 0, 1), (4, 2, 1), (1, 2)), between((0, 0, 1), (1, 0, 1), (1, 3))]
        self.tells(told, [(2, 1, 1), (1, 0, 3)])

    def test_inside(self):
        square = ((0, 0, 1), (4, 0, 1), (4, 4, 1), (0, 4, 1))
        told = [inside(square, (1, 1, 1)), inside(square, (5, 1, 1)), inside(square + square, (1, 1, 1))]
        self.tells(told, [True, False, False])


class TestInterface(Exact):
    def test_the_functions_are_defined_in_the_file(self):
        for function in (side, meet, between, inside):
            self.assertEqual(function.__module__, "ringsorways.plane")
            self.assertIs(getattr(plane, function.__name__), function)

    def test_arguments_by_name(self):
        self.tells(side(c=(0, 1, 1), b=(1, 0, 1), a=(0, 0, 1)), 1)
        self.tells(meet(d=(0, 1, 1), c=(0, -1, 1), b=(1, 0, 1), a=(-1, 0, 1)), ("cross", (0, 0, 1)))
        self.tells(between(share=(1, 4), b=(4, 0, 1), a=(0, 0, 1)), (1, 0, 1))
        self.tells(inside(spot=(1, 1, 1), points=SQUARE), True)

    def test_equal_calls_return_equal_results(self):
        for _ in range(2):
            self.tells(meet((0, 0, 1), (3, 1, 1), (0, 1, 1), (3, 0, 1)), ("cross", (3, 1, 2)))
            self.tells(inside(SQUARE, (1, 1, 2)), True)


class TestSide(Exact):
    def test_left_right_and_on(self):
        self.tells(side((1, 1, 1), (3, 5, 1), (2, 4, 1)), 1)
        self.tells(side((1, 1, 1), (3, 5, 1), (2, 2, 1)), -1)
        self.tells(side((3, 5, 1), (1, 1, 1), (2, 2, 1)), 1)

    def test_on_the_line_between_ahead_and_behind(self):
        for c in ((2, 3, 1), (1, 1, 1), (3, 5, 1), (5, 9, 1), (0, -1, 1), (3, 4, 2)):
            self.tells(side((1, 1, 1), (3, 5, 1), c), 0)

    def test_upright_and_level_lines(self):
        self.tells([side((0, 0, 1), (0, 5, 1), (x, 9, 1)) for x in (-1, 0, 1)], [1, 0, -1])
        self.tells([side((0, 0, 1), (5, 0, 1), (9, y, 1)) for y in (-1, 0, 1)], [-1, 0, 1])

    def test_a_and_b_the_same(self):
        for c in ((1, 2, 3), (0, 0, 1), (-5, 7, 1)):
            self.tells(side((1, 2, 3), (1, 2, 3), c), 0)

    def test_unlike_bottoms(self):
        self.tells(side((1, 1, 2), (1, 1, 3), (1, 1, 5)), 0)
        self.tells(side((1, 1, 2), (1, 1, 3), (2, 3, 10)), -1)
        self.tells(side((1, 1, 2), (1, 1, 3), (3, 2, 10)), 1)

    def test_huge_numbers_are_exact(self):
        self.tells(side((0, 0, 1), (HUGE, HUGE - 1, 1), (HUGE - 1, HUGE - 2, 1)), -1)
        self.tells(side((0, 0, 1), (HUGE, HUGE - 1, 1), (HUGE, HUGE - 1, 2)), 0)
        self.tells(side((-HUGE, 1, HUGE - 1), (HUGE, 1, HUGE - 1), (0, 1, HUGE - 1)), 0)
        self.tells(side((-HUGE, 1, HUGE - 1), (HUGE, 1, HUGE - 1), (0, 1, HUGE - 2)), 1)
        self.tells(side((-HUGE, 1, HUGE - 1), (HUGE, 1, HUGE - 1), (0, 1, HUGE)), -1)

    def test_bad_points(self):
        good = (0, 0, 1)
        for wrong in WRONG_POINTS:
            with self.subTest(wrong):
                self.refuses_the_very(BadPoint, wrong, side, wrong, good, good)
                self.refuses_the_very(BadPoint, wrong, side, good, wrong, good)
                self.refuses_the_very(BadPoint, wrong, side, good, good, wrong)

    def test_the_first_bad_point_is_told(self):
        one, other = (2, 2, 2), [0, 0, 1]
        self.refuses_the_very(BadPoint, one, side, one, other, None)
        self.refuses_the_very(BadPoint, other, side, (0, 0, 1), other, one)
        self.refuses_the_very(BadPoint, one, side, c=other, b=(0, 0, 1), a=one)

    def test_lists_that_are_refused_stay(self):
        wrong = [0, 0, 1]
        self.refuses(BadPoint, [0, 0, 1], side, (0, 0, 1), wrong, (0, 0, 1))
        self.tells(wrong, [0, 0, 1])

    def test_against_fractions(self):
        dice = random.Random(4)
        for _ in range(3000):
            a, b, c = some_points(dice, 3, 5, (1, 2, 3, 6))
            self.tells(side(a, b, c), slow_side(a, b, c))


class TestMeet(Exact):
    def ways_about(self, told, a, b, c, d):
        """The answer stays if the ends of a stretch, or both stretches, change places."""
        for one in ((a, b), (b, a)):
            for other in ((c, d), (d, c)):
                self.tells(meet(*one, *other), told)
                self.tells(meet(*other, *one), told)

    def test_cross(self):
        self.ways_about(("cross", (1, 1, 1)), (0, 0, 1), (2, 2, 1), (0, 2, 1), (2, 0, 1))
        self.ways_about(("cross", (0, 0, 1)), (0, -3, 1), (0, 3, 1), (-5, 0, 1), (5, 0, 1))
        self.ways_about(("cross", (1, 1, 3)), (0, 0, 1), (1, 1, 1), (0, 1, 2), (1, 0, 1))

    def test_cross_at_a_point_with_a_bottom(self):
        self.ways_about(("cross", (6, 2, 7)), (0, 0, 1), (3, 1, 1), (0, 2, 1), (1, 0, 1))
        self.ways_about(("cross", (-6, -2, 7)), (0, 0, 1), (-3, -1, 1), (0, -2, 1), (-1, 0, 1))

    def test_none(self):
        self.ways_about(("none",), (0, 0, 1), (2, 2, 1), (5, 0, 1), (0, 5, 1))
        self.ways_about(("none",), (0, 0, 1), (2, 2, 1), (3, 2, 1), (9, 3, 1))

    def test_none_when_the_line_of_one_meets_the_other(self):
        self.ways_about(("none",), (0, 0, 1), (1, 0, 1), (2, -1, 1), (2, 1, 1))
        self.ways_about(("none",), (0, 0, 1), (1, 0, 1), (2, 0, 1), (2, 1, 1))

    def test_none_side_by_side(self):
        self.ways_about(("none",), (0, 0, 1), (4, 0, 1), (1, 1, 1), (3, 1, 1))
        self.ways_about(("none",), (0, 0, 1), (2, 4, 1), (1, 0, 1), (3, 4, 1))

    def test_touch_end_and_midst(self):
        self.ways_about(("touch", (1, 0, 1)), (0, 0, 1), (2, 0, 1), (1, 0, 1), (1, -5, 1))
        self.ways_about(("touch", (1, 1, 2)), (0, 0, 1), (1, 1, 1), (1, 1, 2), (5, 0, 1))

    def test_touch_end_and_end(self):
        self.ways_about(("touch", (2, 0, 1)), (0, 0, 1), (2, 0, 1), (2, 0, 1), (3, 5, 1))
        self.ways_about(("touch", (1, 2, 3)), (1, 2, 3), (2, 0, 1), (1, 2, 3), (3, 5, 1))

    def test_one_line_nothing_in_common(self):
        self.ways_about(("none",), (0, 0, 1), (2, 0, 1), (3, 0, 1), (4, 0, 1))
        self.ways_about(("none",), (0, 0, 1), (0, 2, 1), (0, 3, 1), (0, 4, 1))
        self.ways_about(("none",), (0, 0, 1), (1, 2, 1), (2, 4, 1), (5, 10, 1))

    def test_one_line_one_point_in_common(self):
        self.ways_about(("touch", (2, 0, 1)), (0, 0, 1), (2, 0, 1), (2, 0, 1), (4, 0, 1))
        self.ways_about(("touch", (0, 2, 1)), (0, 0, 1), (0, 2, 1), (0, 2, 1), (0, 4, 1))
        self.ways_about(("touch", (1, 2, 3)), (0, 0, 1), (1, 2, 3), (1, 2, 3), (5, 10, 1))

    def test_one_line_more_in_common(self):
        self.ways_about(("along",), (0, 0, 1), (2, 0, 1), (1, 0, 1), (4, 0, 1))
        self.ways_about(("along",), (0, 0, 1), (0, 9, 1), (0, 3, 1), (0, 4, 1))
        self.ways_about(("along",), (0, 0, 1), (0, 9, 1), (0, 0, 1), (0, 4, 1))
        self.ways_about(("along",), (1, 1, 1), (5, 3, 1), (1, 1, 1), (5, 3, 1))
        self.ways_about(("along",), (1, 1, 1), (5, 3, 1), (3, 2, 1), (17, 9, 1))

    def test_huge_numbers_are_exact(self):
        told = meet((0, 0, 1), (HUGE, 1, 1), (0, 1, 1), (HUGE, 0, 1))
        self.tells(told, ("cross", (HUGE, 1, 2)))
        told = meet((-HUGE, -HUGE, HUGE - 1), (HUGE, HUGE, HUGE - 1), (0, -1, HUGE), (0, 1, HUGE - 1))
        self.tells(told, ("cross", (0, 0, 1)))
        self.tells(meet((0, 0, 1), (HUGE, 1, 1), (1, 0, 1), (HUGE + 1, 1, 1)), ("none",))

    def test_bad_points(self):
        good = ((0, 0, 1), (1, 0, 1), (0, 1, 1), (1, 1, 1))
        for wrong, at in itertools.product(WRONG_POINTS, range(4)):
            with self.subTest(wrong, at=at):
                self.refuses_the_very(BadPoint, wrong, meet, *good[:at], wrong, *good[at + 1:])

    def test_bad_points_come_first_and_in_sequence(self):
        a, wrong, other = (0, 0, 1), (0, 0, 2), None
        self.refuses_the_very(BadPoint, wrong, meet, a, a, a, wrong)
        self.refuses_the_very(BadPoint, wrong, meet, a, a, wrong, other)
        self.refuses_the_very(BadPoint, other, meet, other, wrong, a, a)
        self.refuses_the_very(BadPoint, wrong, meet, d=other, c=a, b=wrong, a=a)

    def test_same(self):
        a, b, c = (0, 0, 1), (1, 2, 3), (5, 5, 1)
        self.refuses(Same, ((0, 0, 1), (0, 0, 1)), meet, a, a, b, c)
        self.refuses(Same, ((1, 2, 3), (1, 2, 3)), meet, a, c, b, (1, 2, 3))
        self.refuses(Same, ((0, 0, 1), (0, 0, 1)), meet, a, a, b, b)
        self.refuses(Same, ((1, 2, 3), (1, 2, 3)), meet, b, b, a, a)

    def test_against_fractions(self):
        dice = random.Random(5)
        words = {}
        for _ in range(6000):
            a, b, c, d = some_points(dice, 4, 2, (1, 1, 1, 2))
            if a != b and c != d:
                told = slow_meet(a, b, c, d)
                words[told[0]] = words.get(told[0], 0) + 1
                self.ways_about(told, a, b, c, d)
        self.assertGreater(min(words[word] for word in ("none", "cross", "touch", "along")), 50)


class TestBetween(Exact):
    def test_shares_0_and_1(self):
        self.tells(between((1, 2, 3), (5, 7, 2), (0, 1)), (1, 2, 3))
        self.tells(between((1, 2, 3), (5, 7, 2), (1, 1)), (5, 7, 2))

    def test_shares_between(self):
        self.tells(between((0, 0, 1), (9, -6, 1), (2, 3)), (6, -4, 1))
        self.tells(between((9, -6, 1), (0, 0, 1), (2, 3)), (3, -2, 1))
        self.tells(between((1, 0, 2), (0, 1, 3), (1, 2)), (3, 2, 12))
        self.tells(between((-1, -1, 2), (1, 1, 2), (1, 2)), (0, 0, 1))

    def test_a_and_b_the_same(self):
        for share in ((0, 1), (1, 7), (1, 1)):
            self.tells(between((2, 4, 3), (2, 4, 3), share), (2, 4, 3))

    def test_huge_numbers_are_exact(self):
        self.tells(between((0, 0, 1), (HUGE, 1, 1), (1, HUGE)), (HUGE, 1, HUGE))
        self.tells(between((0, 0, 1), (HUGE, 0, 1), (HUGE - 1, HUGE)), (HUGE - 1, 0, 1))

    def test_bad_points(self):
        for wrong in WRONG_POINTS:
            with self.subTest(wrong):
                self.refuses_the_very(BadPoint, wrong, between, wrong, (0, 0, 1), (1, 2))
                self.refuses_the_very(BadPoint, wrong, between, (0, 0, 1), wrong, (1, 2))

    def test_bad_shares(self):
        wrong_shares = (
            (-1, 2), (3, 2), (2, 1), (-1, 1), (2, 4), (0, 2), (2, 2), (1, 0), (0, 0), (1, -2), (-1, -2), (0, -1),
            (True, 2), (1, True), (False, 1), (0, True), [1, 2], (1,), (1, 2, 1), ("1", 2), (1, "2"), (None, 2), "12",
            ((1, 2),), (1, None),
        )
        for wrong in ANY_VALUES + wrong_shares:
            with self.subTest(wrong):
                self.refuses_the_very(BadShare, wrong, between, (0, 0, 1), (1, 0, 1), wrong)

    def test_the_sequence_of_errors(self):
        one, other, share = (0, 0, 2), (4, 4, 2), (2, 4)
        self.refuses_the_very(BadPoint, one, between, one, other, share)
        self.refuses_the_very(BadPoint, other, between, (0, 0, 1), other, share)
        self.refuses_the_very(BadPoint, one, between, share=share, b=(0, 0, 1), a=one)
        self.refuses_the_very(BadShare, share, between, (0, 0, 1), (0, 0, 1), share)

    def test_against_fractions(self):
        dice = random.Random(6)
        for _ in range(2000):
            a, b = some_points(dice, 2, 9, (1, 2, 3, 4, 6))
            bottom = dice.randint(1, 12)
            share = place((dice.randint(0, bottom), 0, bottom))[0] if bottom > 1 else place((1, 0, 1))[0]
            (ax, ay), (bx, by) = place(a), place(b)
            told = between(a, b, (share.numerator, share.denominator))
            self.tells(told, point_of(ax + share * (bx - ax), ay + share * (by - ay)))


class TestInside(Exact):
    def test_a_triangle(self):
        triangle = (whole(0, 0), whole(6, 0), whole(0, 6))
        for points in itertools.permutations(triangle):
            self.tells([inside(points, spot) for spot in ((1, 1, 1), (5, 1, 2), (4, 4, 1), (-1, 1, 1))],
                       [True, True, False, False])

    def test_half_lines_that_meet_corners(self):
        tilted = (whole(0, -2), whole(2, 0), whole(0, 2), whole(-2, 0))
        self.tells([inside(tilted, whole(x, 0)) for x in (-3, -1, 0, 1, 3)], [False, True, True, True, False])
        self.tells([inside(tilted, whole(0, y)) for y in (-3, -1, 1, 3)], [False, True, True, False])
        self.tells([inside(tilted, whole(x, y)) for x in (-3, 3) for y in (-2, 2)], [False] * 4)

    def test_half_lines_along_a_stretch(self):
        bends = ((0, 0), (6, 0), (6, 4), (4, 4), (4, 2), (2, 2), (2, 4), (0, 4))
        stairs = tuple(whole(x, y) for x, y in bends)
        self.tells([inside(stairs, spot) for spot in (whole(1, 2), whole(5, 2), whole(-1, 2), whole(7, 2))],
                   [True, True, False, False])
        self.tells([inside(stairs, whole(x, 4)) for x in (-1, 3, 7)], [False] * 3)
        self.tells([inside(stairs, spot) for spot in (whole(-1, 0), whole(7, 0), whole(3, 3), whole(3, 1))],
                   [False, False, False, True])

    def test_a_line_that_crosses_itself(self):
        bow = (whole(0, 0), whole(4, 4), whole(4, 0), whole(0, 4))
        self.tells([inside(bow, spot) for spot in (whole(1, 2), whole(3, 2), whole(2, 1), whole(2, 3))],
                   [True, True, False, False])

    def test_a_star_is_not_inside_in_its_midst(self):
        star = (whole(0, 10), whole(6, -8), whole(-10, 3), whole(10, 3), whole(-6, -8))
        self.tells([inside(star, spot) for spot in (whole(0, 0), whole(0, 8), whole(0, 11), whole(0, -8))],
                   [False, True, False, False])

    def test_a_line_that_goes_along_itself(self):
        there_and_back = (whole(0, 0), whole(4, 0), whole(2, 0))
        self.tells([inside(there_and_back, spot) for spot in (whole(1, 1), whole(-1, 0), whole(5, 0), whole(3, -1))],
                   [False] * 4)
        hung = (whole(0, 0), whole(4, 0), whole(4, 2), whole(8, 2), whole(4, 2), whole(4, 4), whole(0, 4))
        self.tells([inside(hung, spot) for spot in (whole(1, 2), whole(2, 1), whole(9, 2), whole(6, 3), whole(6, 1))],
                   [True, True, False, False, False])
        again = (whole(0, 0), whole(4, 0), whole(0, 0), whole(4, 0), whole(4, 4), whole(0, 4))
        self.tells([inside(again, spot) for spot in (whole(1, 1), whole(1, -1), whole(5, 1))], [True, False, False])

    def test_gone_round_more_than_once(self):
        for times in (1, 2, 3, 4):
            self.tells(inside(SQUARE * times, whole(1, 1)), times % 2 == 1)
            self.tells(inside(SQUARE * times, whole(5, 1)), False)

    def test_one_round_in_another_touching_it(self):
        both = (whole(0, 0), whole(8, 0), whole(0, 8), whole(0, 0), whole(2, 0), whole(0, 2))
        self.tells([inside(both, spot) for spot in ((1, 1, 2), (2, 2, 1), (9, 9, 1))], [False, True, False])

    def test_fractions(self):
        small = ((0, 0, 1), (1, 0, 7), (0, 1, 7))
        self.tells([inside(small, spot) for spot in ((1, 1, 15), (1, 1, 13), (1, 1, 1000))], [True, False, True])
        self.refuses(OnLine, (1, 1, 14), inside, small, (1, 1, 14))

    def test_huge_numbers_are_exact(self):
        big = ((0, 0, 1), (HUGE, HUGE - 1, 1), (0, HUGE, 1))
        self.tells(inside(big, (HUGE - 1, HUGE - 2, 1)), False)
        self.tells(inside(big, (HUGE - 1, HUGE - 1, 1)), True)

    def test_it_tells_the_same_wherever_the_line_begins(self):
        bow = (whole(0, 0), whole(4, 4), whole(4, 0), whole(0, 4), whole(-3, 1))
        for spot in (whole(1, 2), whole(3, 2), whole(2, 1), whole(-1, 1), whole(9, 9)):
            told = inside(bow, spot)
            for k in range(5):
                turned = bow[k:] + bow[:k]
                self.tells(inside(turned, spot), told)
                self.tells(inside(turned[::-1], spot), told)

    def test_bad_rings(self):
        a, b, c = whole(0, 0), whole(4, 0), whole(0, 4)
        wrong_lines = (
            (a, b), (a,), [a, b, c], (a, a, b), (a, b, b), (a, b, c, a), (a, b, a), (a, b, c, c), (a, b, (0, 4, 2)),
            (a, b, [0, 4, 1]), (a, b, (0, 4, True)), (a, b, None), (a, b, "c"), (a, b, c, 0), (a, b, c, (a, b, c)),
            ((a, b, c),), (a, a, a), {a: b}, (a, b, (0, 4)),
        )
        for wrong in ANY_VALUES + wrong_lines:
            with self.subTest(wrong):
                self.refuses_the_very(BadRing, wrong, inside, wrong, whole(1, 1))

    def test_bad_spots(self):
        for wrong in WRONG_POINTS:
            with self.subTest(wrong):
                self.refuses_the_very(BadPoint, wrong, inside, SQUARE, wrong)

    def test_on_line(self):
        for spot in ((0, 0, 1), (4, 4, 1), (2, 0, 1), (4, 1, 1), (1, 4, 1), (0, 1, 1), (0, 7, 2), (1, 0, 1000)):
            self.refuses_the_very(OnLine, spot, inside, SQUARE, spot)
            self.refuses_the_very(OnLine, spot, inside, SQUARE * 2, spot)

    def test_on_the_stretch_between_the_last_and_the_first_point(self):
        self.refuses(OnLine, (1, 1, 1), inside, (whole(0, 0), whole(4, 0), whole(2, 2)), (1, 1, 1))

    def test_on_the_line_of_a_stretch_but_not_on_it(self):
        self.tells([inside(SQUARE, spot) for spot in (whole(5, 0), whole(-1, 0), whole(0, 5), whole(4, -1))],
                   [False] * 4)

    def test_the_sequence_of_errors(self):
        line, spot = (whole(0, 0), whole(1, 1)), (0, 0, 2)
        self.refuses_the_very(BadRing, line, inside, line, spot)
        self.refuses_the_very(BadRing, line, inside, spot=whole(0, 0), points=line)
        self.refuses_the_very(BadPoint, spot, inside, SQUARE, spot)

    def test_against_half_lines(self):
        dice = random.Random(7)
        directions = [(dice.randint(-99, 99), dice.randint(-99, 99)) for _ in range(6)]
        found = {True: 0, False: 0}
        for _ in range(1500):
            points = tuple(some_points(dice, dice.randint(3, 9), 4, (1, 1, 2)))
            if any(points[k - 1] == points[k] for k in range(len(points))):
                continue
            spot = some_points(dice, 1, 8, (2, 3))[0]
            stretches = [(points[k - 1], points[k]) for k in range(len(points))]
            far = (spot[0] + 10 ** 4 * spot[2], spot[1] + 77 * spot[2], spot[2])
            if any(slow_meet(a, b, spot, far) == ("touch", spot) for a, b in stretches):
                self.refuses(OnLine, spot, inside, points, spot)
                continue
            told = [slow_inside(points, spot, direction) for direction in directions]
            told = [answer for answer in told if answer is not None]
            if told:
                self.assertEqual(len(set(told)), 1)
                self.tells(inside(points, spot), told[0])
                found[told[0]] += 1
        self.assertGreater(min(found.values()), 100)


class TestTurnedAndMirrored(Exact):
    """Section 3 (g): what is told of points stays if all are moved, turned or mirrored together."""

    CHANGES = {
        "moved": (lambda x, y, n: (x + 3 * n, y - 5 * n, n), 1),
        "turned": (lambda x, y, n: (-y, x, n), 1),
        "mirrored": (lambda x, y, n: (-x, y, n), -1),
    }

    def test_all(self):
        dice = random.Random(8)
        for name, (change, hand) in self.CHANGES.items():
            for _ in range(500):
                points = some_points(dice, 6, 3, (1, 1, 2))
                others = [change(*point) for point in points]
                with self.subTest(name, points=points):
                    self.tells(side(*others[:3]), hand * side(*points[:3]))
                    self.tells(between(*others[:2], (2, 3)), change(*between(*points[:2], (2, 3))))
                    if points[0] != points[1] and points[2] != points[3]:
                        told = meet(*points[:4])
                        self.tells(meet(*others[:4]), told[:1] + tuple(change(*point) for point in told[1:]))
                    self.same_inside(points, others)

    def same_inside(self, points, others):
        line, spot = tuple(points[:5]), points[5]
        try:
            told = inside(line, spot)
        except BadRing:
            self.refuses(BadRing, tuple(others[:5]), inside, tuple(others[:5]), others[5])
        except OnLine:
            self.refuses(OnLine, others[5], inside, tuple(others[:5]), others[5])
        else:
            self.tells(inside(tuple(others[:5]), others[5]), told)


if __name__ == "__main__":
    unittest.main()
