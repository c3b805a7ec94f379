"""The examples in README.md tell what the program tells."""

import doctest
import pathlib
import unittest

README = pathlib.Path(__file__).resolve().parent.parent / "README.md"


class TestReadme(unittest.TestCase):
    def test_examples(self):
        # The fences of Markdown stand behind each example, where doctest looks for its answer.
        text = README.read_text(encoding="ascii").replace("```", "")
        test = doctest.DocTestParser().get_doctest(text, {}, "README", "README.md", 0)
        told = doctest.DocTestRunner(verbose=False).run(test)
        self.assertGreater(told.attempted, 10)
        self.assertEqual(told.failed, 0)


if __name__ == "__main__":
    unittest.main()
