"""Section 5: with_fence, without, priced, led_over."""

import unittest

from ringsorways import drawings
from ringsorways.drawings import Drawing, led_over, priced, with_fence, without
from ringsorways.errors import BadFence, BadPrice, BadWord, NoName
from tests.support import ANY_VALUES, Exact, line_of, name_number, random_fences, slow_drawing, text_of

CROSS = "drawing\nfence a -2 0 2 0 3\nfence b 0 -2 0 2 1"


class Changes(Exact):
    """Tests that make a drawing anew, and look at it as a whole."""

    def is_drawn(self, told, text):
        """told is the Drawing of this text, in all that it tells, and not only equal to it."""
        self.assertIs(type(told), Drawing)
        self.tells(told.text, text)
        plain = Drawing(text)
        self.tells([told.fences, told.corners, told.pieces], [plain.fences, plain.corners, plain.pieces])
        self.tells([len(told), told == plain], [len(plain), True])

    def stays(self, drawing, text):
        """The drawing that was handed in is as it was."""
        self.is_drawn(drawing, text)


class TestExamples(Changes):
    def test_all(self):
        cross = Drawing("drawing\nfence a -2 0 2 0 3\nfence b 0 -2 0 2 1")
        more = with_fence(cross, "fence c 2 0 -1 1 9")
        self.tells([more.fences[2], more.corners[4], more.pieces[-2:]],
                   [("c", (2, 0), (-1, 1), 9), (0, 2, 3), (("c", 6, 4), ("c", 4, 1))])
        told = [without(more, "b").pieces, priced(cross, "b", 5).text.split("\n")[2]]
        told.append(led_over(cross, "turned").fences[0])
        self.tells(told, [(("a", 0, 2), ("c", 2, 1)), "fence b 0 -2 0 2 5", ("a", (0, -2), (0, 2), 3)])

    def test_what_is_told_below(self):
        cross = Drawing(CROSS)
        line = "fence d 1 0 5 0 2"
        self.refuses_the_very(BadFence, line, with_fence, cross, line)
        more = with_fence(cross, "fence c 2 0 -1 1 9")
        self.tells([more.corners[number] for number in (6, 4, 1)], [(2, 0, 1), (0, 2, 3), (-1, 1, 1)])


class TestInterface(Changes):
    def test_the_functions_are_defined_in_the_file(self):
        for function in (with_fence, without, priced, led_over):
            self.assertEqual(function.__module__, "ringsorways.drawings")
            self.assertIs(getattr(drawings, function.__name__), function)

    def test_arguments_by_name(self):
        cross = Drawing(CROSS)
        self.is_drawn(with_fence(line="fence c 5 5 6 6 1", drawing=cross), CROSS + "\nfence c 5 5 6 6 1")
        self.is_drawn(without(name="a", drawing=cross), "drawing\nfence b 0 -2 0 2 1")
        self.is_drawn(priced(price=4, name="a", drawing=cross), CROSS.replace("0 3", "0 4"))
        self.is_drawn(led_over(word="mirrored", drawing=cross), "drawing\nfence a 2 0 -2 0 3\nfence b 0 -2 0 2 1")

    def test_equal_calls_return_equal_results(self):
        one, other = Drawing(CROSS), Drawing(CROSS)
        self.assertEqual(with_fence(one, "fence c 5 5 6 6 1"), with_fence(other, "fence c 5 5 6 6 1"))
        self.assertEqual(without(one, "a"), without(other, "a"))
        self.assertEqual(priced(one, "a", 7), priced(one, "a", 7))
        self.assertEqual(led_over(one, "turned"), led_over(other, "turned"))


class TestWithFence(Changes):
    def test_from_none_on(self):
        told = Drawing("drawing")
        fences = random_fences(21, 12, 4)
        for count, fence in enumerate(fences, start=1):
            before = told
            told = with_fence(told, line_of(fence))
            self.is_drawn(told, text_of(fences[:count]))
            self.stays(before, text_of(fences[:count - 1]))
            self.tells((told.corners, told.pieces), slow_drawing(fences[:count]))

    def test_lines_that_cannot_stand(self):
        lines = (
            "", " ", "fence", "fence c 5 5 6 6", "fence c 5 5 6 6 1 1", "fence c 5 5 6 6 0", "fence c 5 5 6 6 100",
            "fence c 5 5 5 5 1", "fence c 5 5 1001 6 1", "fence c 5 5 6 -1001 1", "fence abcdefg 5 5 6 6 1",
            "fence C 5 5 6 6 1", "fence  5 5 6 6 1", "fence c 05 5 6 6 1", "fence c 5 5 6 6 1 ", " fence c 5 5 6 6 1",
            "fence c 5  5 6 6 1", "drawing", "fence c 5 5 6 6 +1", "fence c 5 5 6 -0 1",
        )
        for line in lines:
            with self.subTest(line):
                cross = Drawing(CROSS)
                self.refuses_the_very(BadFence, line, with_fence, cross, line)
                self.stays(cross, CROSS)

    def test_names_twice_and_fences_along(self):
        cross = Drawing(CROSS)
        lines = (
            "fence a 5 5 6 6 1", "fence b 5 5 6 6 1", "fence c -2 0 2 0 3", "fence c 0 1 0 9 1", "fence c 9 0 1 0 1",
        )
        for line in lines:
            self.refuses_the_very(BadFence, line, with_fence, cross, line)
        for line in ("fence c 2 0 9 0 1", "fence c 0 2 0 3 1", "fence c 3 0 9 0 1", "fence c -1 -1 1 1 1"):
            self.is_drawn(with_fence(cross, line), CROSS + "\n" + line)

    def test_line_feeds(self):
        cross = Drawing(CROSS)
        good = "fence c 5 5 6 6 1"
        for line in ("\n", good + "\n", "\n" + good, good + "\nfence d 7 7 8 8 1", "fence c 5 5\n6 6 1"):
            self.refuses_the_very(BadFence, line, with_fence, cross, line)

    def test_no_string(self):
        for value in ANY_VALUES + (b"fence c 5 5 6 6 1", ("fence c 5 5 6 6 1",), ["fence", "c", 5, 5, 6, 6, 1]):
            with self.subTest(value):
                self.refuses_the_very(BadFence, value, with_fence, Drawing(CROSS), value)

    def test_one_more_than_forty(self):
        lines = [f"fence {name_number(k)} 0 {k} 9 {k} 1" for k in range(41)]
        told = Drawing("\n".join(["drawing"] + lines[:39]))
        full = with_fence(told, lines[39])
        self.is_drawn(full, "\n".join(["drawing"] + lines[:40]))
        self.refuses_the_very(BadFence, lines[40], with_fence, full, lines[40])


class TestWithout(Changes):
    def test_each_place(self):
        fences = random_fences(22, 9, 4)
        told = Drawing(text_of(fences))
        for place, fence in enumerate(fences):
            rest = fences[:place] + fences[place + 1:]
            self.is_drawn(without(told, fence[0]), text_of(rest))
            self.tells(without(told, fence[0]).pieces, slow_drawing(rest)[1])
        self.stays(told, text_of(fences))

    def test_the_last_one(self):
        self.is_drawn(without(Drawing("drawing\nfence a 0 0 1 0 1"), "a"), "drawing")

    def test_there_and_back(self):
        cross = Drawing(CROSS)
        self.assertEqual(without(with_fence(cross, "fence c 5 5 6 6 1"), "c"), cross)

    def test_no_name(self):
        cross = Drawing(CROSS)
        wrong = [value for value in ANY_VALUES if value != "a"]
        for value in wrong + ["c", "A", "ab", "a ", b"a", ["a"], ("a",), "fence a"]:
            with self.subTest(value):
                self.refuses_the_very(NoName, value, without, cross, value)
        self.refuses(NoName, "a", without, Drawing("drawing"), "a")
        self.refuses(NoName, "a", without, without(cross, "a"), "a")
        self.stays(cross, CROSS)


class TestPriced(Changes):
    def test_it_keeps_its_place(self):
        fences = random_fences(23, 7, 5)
        told = Drawing(text_of(fences))
        for place, (name, a, b, price) in enumerate(fences):
            for number in (1, 50, 99, price):
                changed = fences[:place] + [(name, a, b, number)] + fences[place + 1:]
                self.is_drawn(priced(told, name, number), text_of(changed))
                self.tells(priced(told, name, number).pieces, told.pieces)
        self.stays(told, text_of(fences))

    def test_no_name(self):
        for value in [value for value in ANY_VALUES if value != "a"] + ["c", ["a"], ("a",)]:
            with self.subTest(value):
                self.refuses_the_very(NoName, value, priced, Drawing(CROSS), value, 5)

    def test_bad_prices(self):
        cross = Drawing(CROSS)
        for value in (0, -1, 100, 10 ** 12, True, False, None, "5", "", (5,), [5], {}, (5, 1), cross):
            with self.subTest(value):
                self.refuses_the_very(BadPrice, value, priced, cross, "a", value)
        self.stays(cross, CROSS)

    def test_the_name_is_looked_at_first(self):
        cross = Drawing(CROSS)
        self.refuses(NoName, "c", priced, cross, "c", 0)
        self.refuses(NoName, None, priced, cross, price=None, name=None)
        self.refuses(BadPrice, 0, priced, cross, price=0, name="a")


class TestLedOver(Changes):
    def test_turned(self):
        told = led_over(Drawing("drawing\nfence a 1 2 -3 4 5\nfence b 1000 -1000 0 7 6"), "turned")
        self.is_drawn(told, "drawing\nfence a -2 1 -4 -3 5\nfence b 1000 1000 -7 0 6")

    def test_mirrored(self):
        told = led_over(Drawing("drawing\nfence a 1 2 -3 4 5\nfence b 1000 -1000 0 7 6"), "mirrored")
        self.is_drawn(told, "drawing\nfence a -1 2 3 4 5\nfence b -1000 -1000 0 7 6")

    def test_no_fences(self):
        for word in ("turned", "mirrored"):
            self.is_drawn(led_over(Drawing("drawing"), word), "drawing")

    def test_there_and_back(self):
        for seed in range(5):
            told = Drawing(text_of(random_fences(seed, 9, 5)))
            text = told.text
            self.is_drawn(led_over(led_over(told, "mirrored"), "mirrored"), text)
            turned = told
            for _ in range(4):
                turned = led_over(turned, "turned")
            self.is_drawn(turned, text)
            self.stays(told, text)

    def test_corners_and_pieces_are_led_with_them(self):
        changes = {"turned": lambda x, y, n: (-y, x, n), "mirrored": lambda x, y, n: (-x, y, n)}
        for seed in range(8):
            one = Drawing(text_of(random_fences(seed, 9, 5)))
            for word, change in changes.items():
                other = led_over(one, word)
                moved = [change(*corner) for corner in one.corners]
                self.assertEqual(set(other.corners), set(moved))
                numbers = [other.corners.index(corner) for corner in moved]
                self.tells(other.pieces, tuple((name, numbers[i], numbers[j]) for name, i, j in one.pieces))

    def test_bad_words(self):
        cross = Drawing(CROSS)
        wrong = ("Turned", "turn", "mirror", "turned ", "turnedmirrored", ("turned",), ["mirrored"], b"turned")
        for value in ANY_VALUES + wrong:
            with self.subTest(value):
                self.refuses_the_very(BadWord, value, led_over, cross, value)
                self.refuses_the_very(BadWord, value, led_over, Drawing("drawing"), value)
        self.stays(cross, CROSS)


if __name__ == "__main__":
    unittest.main()
