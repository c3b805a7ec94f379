"""Section 5: what a Drawing is, and what it tells."""

import random
import unittest

from ringsorways import drawings
from ringsorways.drawings import Drawing
from ringsorways.errors import BadDrawing
from tests.support import (
    ANY_VALUES, Exact, ends_of, line_of, name_number, random_fences, slow_drawing, slow_lies_on, slow_meet, text_of,
)

CROSS = "drawing\nfence a -2 0 2 0 3\nfence b 0 -2 0 2 1"


def rows(*lines):
    """The text with these lines behind the first one, each without the word fence."""
    return "\n".join(["drawing"] + ["fence " + line for line in lines])


def forty():
    """The lines of 40 fences: 20 level ones, each of which crosses 20 upright ones."""
    level = [f"{name_number(k)} -100 {k} 100 {k} 1" for k in range(20)]
    return level + [f"{name_number(20 + k)} {k} -100 {k} 100 2" for k in range(20)]


class TestExamples(Exact):
    def test_the_cross(self):
        cross = Drawing("drawing\nfence a -2 0 2 0 3\nfence b 0 -2 0 2 1")
        self.tells([cross.corners, cross.pieces, len(cross)], [
            ((-2, 0, 1), (0, -2, 1), (0, 0, 1), (0, 2, 1), (2, 0, 1)),
            (("a", 0, 2), ("a", 2, 4), ("b", 1, 2), ("b", 2, 3)), 2,
        ])


class TestInterface(Exact):
    def test_it_is_defined_in_the_file(self):
        self.assertEqual(Drawing.__module__, "ringsorways.drawings")
        self.assertIs(drawings.Drawing, Drawing)
        for name in ("__len__", "__eq__"):
            self.assertIn(name, vars(Drawing))

    def test_by_name(self):
        self.tells(Drawing(text=CROSS).text, CROSS)

    def test_kinds_of_values(self):
        cross = Drawing(CROSS)
        self.tells(cross.text, CROSS)
        self.tells(cross.fences, (("a", (-2, 0), (2, 0), 3), ("b", (0, -2), (0, 2), 1)))
        for told in (cross.corners, cross.pieces):
            self.assertIs(type(told), tuple)
            self.assertEqual({type(row) for row in told}, {tuple})
        self.assertIs(type(len(cross)), int)


class TestTold(Exact):
    def test_no_fences(self):
        empty = Drawing("drawing")
        self.tells([empty.text, empty.fences, empty.corners, empty.pieces, len(empty)], ["drawing", (), (), (), 0])

    def test_one_fence(self):
        one = Drawing("drawing\nfence abc 5 -7 -3 2 99")
        self.tells(one.fences, (("abc", (5, -7), (-3, 2), 99),))
        self.tells([one.corners, one.pieces, len(one)], [((-3, 2, 1), (5, -7, 1)), (("abc", 1, 0),), 1])

    def test_corners_of_one_first_coordinate_stand_by_the_second(self):
        told = Drawing(rows("a 1 5 2 -5 1", "b 1 -5 0 5 1", "c 1 0 3 0 1"))
        self.tells(told.corners, (
            (0, 5, 1), (1, -5, 1), (1, 0, 1), (1, 5, 1), (3, 0, 2), (2, -5, 1), (3, 0, 1),
        ))
        self.tells(told.pieces, (("a", 3, 4), ("a", 4, 5), ("b", 1, 0), ("c", 2, 4), ("c", 4, 6)))

    def test_several_fences_through_one_point(self):
        star = Drawing(rows("a -3 0 3 0 1", "b 0 3 0 -3 2", "c -2 -2 2 2 3", "d 1 -1 -1 1 4"))
        self.tells(star.corners, (
            (-3, 0, 1), (-2, -2, 1), (-1, 1, 1), (0, -3, 1), (0, 0, 1), (0, 3, 1), (1, -1, 1), (2, 2, 1), (3, 0, 1),
        ))
        self.tells(star.pieces, (
            ("a", 0, 4), ("a", 4, 8), ("b", 5, 4), ("b", 4, 3), ("c", 1, 4), ("c", 4, 7), ("d", 6, 4), ("d", 4, 2),
        ))

    def test_several_fences_that_end_at_one_point(self):
        told = Drawing(rows("a 0 0 3 0 1", "b 0 3 0 0 2", "c 0 0 -2 -2 3"))
        self.tells(told.corners, ((-2, -2, 1), (0, 0, 1), (0, 3, 1), (3, 0, 1)))
        self.tells(told.pieces, (("a", 1, 3), ("b", 2, 1), ("c", 1, 0)))

    def test_an_end_on_another_fence(self):
        told = Drawing(rows("a 0 0 4 2 1", "b 2 1 2 -5 2"))
        self.tells(told.corners, ((0, 0, 1), (2, -5, 1), (2, 1, 1), (4, 2, 1)))
        self.tells(told.pieces, (("a", 0, 2), ("a", 2, 3), ("b", 2, 1)))

    def test_an_end_where_two_others_cross(self):
        told = Drawing(rows("a -2 0 2 0 1", "b 0 -2 0 2 2", "c 0 0 5 5 3"))
        self.tells(told.corners, ((-2, 0, 1), (0, -2, 1), (0, 0, 1), (0, 2, 1), (2, 0, 1), (5, 5, 1)))
        self.tells(told.pieces, (("a", 0, 2), ("a", 2, 4), ("b", 1, 2), ("b", 2, 3), ("c", 2, 5)))

    def test_fences_of_one_line(self):
        told = Drawing(rows("a 0 0 2 0 1", "b 4 0 2 0 2", "c 6 0 5 0 3"))
        self.tells(told.corners, ((0, 0, 1), (2, 0, 1), (4, 0, 1), (5, 0, 1), (6, 0, 1)))
        self.tells(told.pieces, (("a", 0, 1), ("b", 2, 1), ("c", 4, 3)))

    def test_corners_with_bottoms(self):
        told = Drawing(rows("a 0 0 3 1 1", "b 0 1 1 -1 2", "c 1 1 -1 0 3"))
        self.tells(told.corners, (
            (-1, 0, 1), (0, 0, 1), (0, 1, 1), (1, 3, 5), (3, 1, 7), (1, -1, 1), (1, 1, 1), (3, 1, 1),
        ))
        self.tells(told.pieces, (
            ("a", 1, 4), ("a", 4, 7), ("b", 2, 3), ("b", 3, 4), ("b", 4, 5), ("c", 6, 3), ("c", 3, 0),
        ))

    def test_near_corners_stand_by_their_worth(self):
        # The level fence is crossed at 999/1999, 998/1997 and 997/1995, each less than the one ahead of it.
        told = Drawing(rows("a -1000 0 1000 0 1", "b 0 999 1 -1000 1", "c 0 998 1 -999 1", "d 0 997 1 -998 1"))
        near = [corner for corner in told.corners if corner[1] == 0]
        self.tells(near, [(-1000, 0, 1), (997, 0, 1995), (998, 0, 1997), (999, 0, 1999), (1000, 0, 1)])
        self.tells((told.corners, told.pieces), slow_drawing(told.fences))

    def test_forty_fences(self):
        told = Drawing(rows(*forty()))
        self.tells([len(told), len(told.corners), len(told.pieces)], [40, 20 * 20 + 80, 40 * 21])
        self.tells(told.fences[39], ("bn", (19, -100), (19, 100), 2))
        self.tells(told.pieces[0], ("aa", 0, 21))
        self.tells(told.pieces[-1], ("bn", told.corners.index((19, 19, 1)), told.corners.index((19, 100, 1))))
        self.tells((told.corners, told.pieces), slow_drawing(told.fences))

    def test_against_fractions(self):
        for seed in range(60):
            fences = random_fences(seed, 3 + seed % 10, (3, 6, 1000)[seed % 3])
            told = Drawing(text_of(fences))
            with self.subTest(told.text):
                self.tells(told.fences, tuple(fences))
                self.tells((told.corners, told.pieces), slow_drawing(fences))

    def test_what_holds_for_all_texts(self):
        for seed in range(20):
            told = Drawing(text_of(random_fences(seed, 8, 4)))
            ends = [(told.corners[i], told.corners[j]) for _, i, j in told.pieces]
            with self.subTest(told.text):
                for at, (a, b) in enumerate(ends):
                    self.assertEqual({corner for corner in told.corners if slow_lies_on(a, b, corner)}, {a, b})
                    for c, d in ends[:at]:
                        common = {a, b} & {c, d}
                        self.assertEqual(slow_meet(a, b, c, d), ("touch", *common) if common else ("none",))
                self.pieces_follow_one_another(told)

    def pieces_follow_one_another(self, told):
        """A fence with k corners has k - 1 pieces, each of which begins where the one ahead of it ends."""
        for name, *_ in told.fences:
            own = [row for row in told.pieces if row[0] == name]
            self.assertEqual(len(own), len({corner for row in own for corner in row[1:]}) - 1)
            self.assertEqual([row[2] for row in own[:-1]], [row[1] for row in own[1:]])


class TestThereAndBack(Exact):
    """Section 3 (g): another sequence, other names, turned, mirrored."""

    def test_another_sequence(self):
        dice = random.Random(11)
        for seed in range(20):
            fences = random_fences(seed, 9, 5)
            mixed = list(fences)
            dice.shuffle(mixed)
            one, other = Drawing(text_of(fences)), Drawing(text_of(mixed))
            self.tells(other.corners, one.corners)
            self.tells(sorted(other.pieces), sorted(one.pieces))
            for name, *_ in fences:
                own = [row for row in other.pieces if row[0] == name]
                self.tells(own, [row for row in one.pieces if row[0] == name])

    def test_other_names_and_prices(self):
        for seed in range(10):
            fences = random_fences(seed, 9, 5)
            renamed = [("x" + name, a, b, 100 - price) for name, a, b, price in fences]
            one, other = Drawing(text_of(fences)), Drawing(text_of(renamed))
            self.tells(other.corners, one.corners)
            self.tells(other.pieces, tuple(("x" + name, i, j) for name, i, j in one.pieces))

    def test_a_fence_told_from_its_other_end(self):
        for seed in range(10):
            fences = random_fences(seed, 9, 5)
            one = Drawing(text_of(fences))
            other = Drawing(text_of([(name, b, a, price) for name, a, b, price in fences]))
            self.tells(other.corners, one.corners)
            for name, *_ in fences:
                turned = [(name, j, i) for of, i, j in other.pieces if of == name][::-1]
                self.tells(turned, [row for row in one.pieces if row[0] == name])

    def test_turned_and_mirrored(self):
        changes = ((lambda x, y: (-y, x)), (lambda x, y: (-x, y)), (lambda x, y: (-x, -y)))
        for seed in range(10):
            fences = random_fences(seed, 9, 5)
            one = Drawing(text_of(fences))
            for change in changes:
                other = Drawing(text_of([(name, change(*a), change(*b), price) for name, a, b, price in fences]))
                moved = [(*change(x, y), bottom) for x, y, bottom in one.corners]
                self.assertEqual(set(other.corners), set(moved))
                self.tells(other.pieces, tuple(
                    (name, other.corners.index(moved[i]), other.corners.index(moved[j])) for name, i, j in one.pieces
                ))

    def test_moved(self):
        fences = random_fences(3, 9, 5)
        one = Drawing(text_of(fences))
        other = Drawing(text_of([(name, (a[0] + 7, a[1] - 9), (b[0] + 7, b[1] - 9), p) for name, a, b, p in fences]))
        self.tells(other.corners, tuple((x + 7 * n, y - 9 * n, n) for x, y, n in one.corners))
        self.tells(other.pieces, one.pieces)

    def test_read_back_from_its_text(self):
        for seed in range(10):
            one = Drawing(text_of(random_fences(seed, 9, 5)))
            other = Drawing(one.text)
            self.assertTrue(one == other)
            self.tells([other.fences, other.corners, other.pieces], [one.fences, one.corners, one.pieces])


class TestEqual(Exact):
    def test_equal_texts(self):
        self.tells([Drawing(CROSS) == Drawing(CROSS), Drawing(CROSS) != Drawing(CROSS)], [True, False])
        self.tells(Drawing("drawing") == Drawing("drawing"), True)

    def test_unlike_texts(self):
        others = (
            "drawing", rows("b 0 -2 0 2 1", "a -2 0 2 0 3"), rows("a -2 0 2 0 3", "b 0 -2 0 2 2"),
            rows("a -2 0 2 0 3", "c 0 -2 0 2 1"), rows("a 2 0 -2 0 3", "b 0 -2 0 2 1"),
        )
        for text in others:
            self.tells([Drawing(CROSS) == Drawing(text), Drawing(CROSS) != Drawing(text)], [False, True])

    def test_nothing_else(self):
        cross = Drawing(CROSS)
        others = (CROSS, cross.fences, (cross.text,), [cross], None, 2, True, {}, object())
        for other in others:
            with self.subTest(other):
                self.tells([cross == other, other == cross, cross != other], [False, False, True])
        self.tells([Drawing("drawing") == value for value in (0, (), "", None, False)], [False] * 5)

    def test_within_tuples(self):
        self.assertEqual((Drawing(CROSS), 1), (Drawing(CROSS), 1))
        self.assertIn(Drawing(CROSS), [Drawing("drawing"), Drawing(CROSS)])


class TestBadDrawing(Exact):
    def test_no_string(self):
        for value in ANY_VALUES + (b"drawing", ("drawing",), ["drawing"], [CROSS]):
            if not isinstance(value, str):
                with self.subTest(value):
                    self.refuses(BadDrawing, 0, Drawing, value)

    def test_the_first_line(self):
        firsts = (
            "", "\n", "\ndrawing", "drawing ", " drawing", "Drawing", "DRAWING", "drawings", "drawing 1", "fence",
            "field", "fence a 0 0 1 0 1", "drawing\r", "drawing\t", "drawing fence a 0 0 1 0 1", "rawing",
            "drawing\r\n", "0",
        )
        for text in firsts:
            with self.subTest(text):
                self.refuses(BadDrawing, 1, Drawing, text)
                self.refuses(BadDrawing, 1, Drawing, text + "\nfence a 0 0 1 0 1")

    def test_a_line_without_signs(self):
        self.refuses(BadDrawing, 2, Drawing, "drawing\n")
        self.refuses(BadDrawing, 2, Drawing, "drawing\n\nfence a 0 0 1 0 1")
        self.refuses(BadDrawing, 4, Drawing, CROSS + "\n")
        self.refuses(BadDrawing, 4, Drawing, CROSS + "\n\n")

    def bad_line(self, line):
        """The line stands neither alone nor behind others, nor do those behind it matter."""
        with self.subTest(line):
            self.refuses(BadDrawing, 2, Drawing, "drawing\n" + line)
            self.refuses(BadDrawing, 2, Drawing, "drawing\n" + line + "\nfence z 0 0 0 0 0")
            self.refuses(BadDrawing, 4, Drawing, "drawing\nfence y 500 0 500 1 1\nfence z 600 0 600 1 1\n" + line)

    def test_words_and_blanks(self):
        good = "fence a 0 0 1 0 1"
        lines = (
            " " + good, good + " ", good.replace(" ", "  ", 1), "fence a 0 0  1 0 1", "fence a 0 0 1 0  1", "fence",
            "fence a", "fence a 0 0 1 0", "fence a 0 0 1 0 1 1", "a 0 0 1 0 1", "Fence a 0 0 1 0 1",
            "fences a 0 0 1 0 1", "FENCE a 0 0 1 0 1", "fence\ta 0 0 1 0 1", "fence a 0 0 1 0\t1",
            "fence a 0 0 1 0 1\t", good + "\r",
            "fence a 0,0 1,0 1", "fence a (0 0) (1 0) 1", "fence 0 0 1 0 1 a", "fence a 0 0 1 0 1;", "# " + good,
            "drawing", "wall a 0 0 1 0 1", "fence a b 0 0 1 0 1", "put " + good, " ", "  ", "fence a 0 0 1 0 1 ",
        )
        for line in lines:
            self.bad_line(line)

    def test_names(self):
        wrong = ("", "abcdefg", "A", "aB", "a1", "1", "a_b", "a-b", "_", "a.", "abcdef0", "a'", "*", "[a]", "`", "{")
        for name in wrong:
            self.bad_line(f"fence {name} 0 0 1 0 1")
        for name in ("a", "z", "ab", "abcdef", "zzzzzz", "fence", "put"):
            self.tells(Drawing(rows(f"{name} 0 0 1 0 1")).pieces, ((name, 0, 1),))

    def test_numbers(self):
        words = (
            "", "-", "+1", "01", "-01", "00", "-0", "+0", "1.0", "1.", "1e1", "0x1", "1_0", "--1", "- 1", "a",
            "None", "True", "1/1", "1-", "(1)", "0b1", "1,", "1001", "-1001", "99999", "1000000000000",
            "-1000000000000", "\t1", "1\x0b",
        )
        for word in words:
            for at in range(4):
                numbers = ["7", "8", "9", "10"]
                numbers[at] = word
                self.bad_line(f"fence a {' '.join(numbers)} 1")
            self.bad_line(f"fence a 7 8 9 10 {word}")

    def test_bounds_of_coordinates(self):
        told = Drawing(rows("a 1000 -1000 -1000 1000 1"))
        self.tells(told.fences, (("a", (1000, -1000), (-1000, 1000), 1),))
        for at in range(4):
            for number in (1001, -1001):
                numbers = [0, 1, 2, 3]
                numbers[at] = number
                self.bad_line("fence a " + " ".join(str(n) for n in numbers) + " 1")

    def test_bounds_of_prices(self):
        for price in (1, 2, 98, 99):
            self.tells(Drawing(rows(f"a 0 0 1 0 {price}")).fences[0][3], price)
        for price in (0, -1, 100, 1000):
            self.bad_line(f"fence a 0 0 1 0 {price}")

    def test_ends_alike(self):
        for line in ("fence a 0 0 0 0 1", "fence a 5 -7 5 -7 1", "fence a 1000 1000 1000 1000 99"):
            self.bad_line(line)
        for line in ("a 0 0 0 1 1", "a 5 0 0 5 1", "a 1 0 -1 0 1"):
            self.tells(len(Drawing(rows(line))), 1)

    def test_names_twice(self):
        self.refuses(BadDrawing, 3, Drawing, rows("a 0 0 1 0 1", "a 0 5 1 5 1"))
        self.refuses(BadDrawing, 4, Drawing, rows("a 0 0 1 0 1", "b 0 5 1 5 1", "a 0 9 1 9 1"))
        self.refuses(BadDrawing, 3, Drawing, rows("a 0 0 1 0 1", "a 0 0 1 0 1"))
        self.tells(len(Drawing(rows("a 0 0 1 0 1", "aa 0 5 1 5 1"))), 2)

    def test_fences_along_one_another(self):
        clashing = (
            ("0 0 4 0", "1 0 3 0"), ("1 0 3 0", "0 0 4 0"), ("0 0 4 0", "3 0 9 0"), ("0 0 4 0", "9 0 3 0"),
            ("0 0 4 0", "0 0 4 0"), ("0 0 4 0", "4 0 0 0"), ("0 0 4 0", "0 0 1 0"), ("0 0 4 0", "3 0 4 0"),
            ("0 0 0 4", "0 3 0 9"), ("0 0 4 2", "2 1 6 3"), ("0 0 6 9", "2 3 4 6"), ("-3 3 3 -3", "2 -2 4 -4"),
        )
        for one, other in clashing:
            with self.subTest(one, other=other):
                self.refuses(BadDrawing, 3, Drawing, rows(f"a {one} 1", f"b {other} 1"))
                self.refuses(BadDrawing, 4, Drawing, rows(f"a {one} 1", "c 50 0 50 9 1", f"b {other} 1"))

    def test_fences_that_touch_only(self):
        touching = (
            ("0 0 4 0", "4 0 9 0"), ("0 0 4 0", "5 0 9 0"), ("0 0 4 0", "4 0 9 1"), ("0 0 2 3", "2 3 4 6"),
        )
        for one, other in touching:
            self.tells(len(Drawing(rows(f"a {one} 1", f"b {other} 1"))), 2)

    def test_one_more_than_forty(self):
        lines = forty()
        self.tells(len(Drawing(rows(*lines))), 40)
        self.refuses(BadDrawing, 42, Drawing, rows(*lines, "zz 500 500 600 600 1"))
        self.refuses(BadDrawing, 42, Drawing, rows(*lines, "zz 500 500 600 600 1", "zy 700 500 800 600 1"))
        self.refuses(BadDrawing, 42, Drawing, rows(*lines) + "\n")
        self.refuses(BadDrawing, 41, Drawing, rows(*lines[:39], lines[0], "zz 500 500 600 600 1"))
        self.tells(len(Drawing(rows(*lines[:39], "zz 500 500 600 600 1"))), 40)

    def test_the_first_wrong_line_is_told(self):
        self.refuses(BadDrawing, 3, Drawing, rows("a 0 0 1 0 1", "b 0 0 0 0 1", "c 0 0 1 0 0"))
        self.refuses(BadDrawing, 3, Drawing, rows("a 0 0 4 0 1", "b 1 0 2 0 1", "c"))
        self.refuses(BadDrawing, 4, Drawing, rows("a 0 0 4 0 1", "b 0 1 2 1 1", "c", "d 1 0 2 0 1"))
        self.refuses(BadDrawing, 1, Drawing, "drawn\nfence")

    def test_whether_random_fences_stand(self):
        dice = random.Random(12)
        refused = 0
        for _ in range(300):
            numbers = [[dice.randint(0, 3) for _ in range(4)] for _ in range(6)]
            fences = [(name_number(k), (x, y), (u, v), 1) for k, (x, y, u, v) in enumerate(numbers)]
            wrong = [k for k, fence in enumerate(fences) if fence[1] == fence[2] or any(
                slow_meet(*ends_of(fence), *ends_of(one)) == ("along",) for one in fences[:k] if one[1] != one[2])]
            if wrong:
                refused += 1
                self.refuses(BadDrawing, wrong[0] + 2, Drawing, text_of(fences))
            else:
                self.tells(len(Drawing(text_of(fences))), 6)
        self.assertTrue(100 < refused < 290)


class TestTextAsItStands(Exact):
    def test_each_line_tells_its_fence(self):
        fences = random_fences(1, 9, 1000)
        told = Drawing(text_of(fences))
        self.tells(told.text.split("\n")[1:], [line_of(fence) for fence in told.fences])


if __name__ == "__main__":
    unittest.main()
