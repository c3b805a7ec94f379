"""Section 18, and what section 2 tells of errors."""

import unittest

from ringsorways import errors
from tests.support import ANY_VALUES, Exact

NAMES = """BadPoint Same BadShare BadRing OnLine BadDrawing BadFence NoName BadPrice BadWord BadPiece BadLand BadSpot
BadWay Twice Along Full BadEnd Through BadSpots Covered BadNumber Leans BadMark NothingToUndo NothingToRedo NoTrial
BadJournal BadWords""".split()


class TestErrors(Exact):
    def test_the_names_are_those_of_the_interface(self):
        self.assertEqual(len(NAMES), 29)
        defined = [name for name, value in vars(errors).items() if isinstance(value, type)]
        self.assertEqual(sorted(defined), sorted(NAMES + ["FenceError"]))

    def test_all_derive_directly(self):
        self.assertEqual(errors.FenceError.__bases__, (ValueError,))
        for name in NAMES:
            with self.subTest(name):
                self.assertEqual(getattr(errors, name).__bases__, (errors.FenceError,))

    def test_all_are_defined_in_the_file(self):
        for name in NAMES + ["FenceError"]:
            with self.subTest(name):
                self.assertEqual(getattr(errors, name).__module__, "ringsorways.errors")
                self.assertEqual(getattr(errors, name).__name__, name)

    def test_they_keep_any_value(self):
        for name in NAMES + ["FenceError"]:
            for value in ANY_VALUES:
                with self.subTest(name, value=value):
                    self.assertIs(getattr(errors, name)(value).value, value)

    def test_they_can_be_raised_and_caught(self):
        for name in NAMES:
            with self.subTest(name):
                for above in (getattr(errors, name), errors.FenceError, ValueError):
                    with self.assertRaises(above) as caught:
                        raise getattr(errors, name)((name, None))
                    self.tells(caught.exception.value, (name, None))

    def test_none_is_caught_as_another(self):
        for name in NAMES:
            for other in NAMES:
                with self.subTest(name, other=other):
                    told = isinstance(getattr(errors, name)(0), getattr(errors, other))
                    self.assertEqual(told, name == other)


if __name__ == "__main__":
    unittest.main()
