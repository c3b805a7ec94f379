"""Each example that stands in the document, with the very answers that stand there."""

import doctest
import pathlib
import unittest

EXAMPLES = pathlib.Path(__file__).resolve().parent / "examples.txt"


class TestDocument(unittest.TestCase):
    def test_examples(self):
        sections = EXAMPLES.read_text(encoding="ascii").split("# ")[1:]
        self.assertEqual([section.split(".")[0] for section in sections], [str(number) for number in range(4, 18)])
        for section in sections:
            with self.subTest(section.split("\n")[0]):
                # Each section imports for itself what it asks.
                test = doctest.DocTestParser().get_doctest(section, {}, "section", "examples.txt", 0)
                told = doctest.DocTestRunner(verbose=False).run(test)
                self.assertGreater(told.attempted, 4)
                self.assertEqual(told.failed, 0)


if __name__ == "__main__":
    unittest.main()
