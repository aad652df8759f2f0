"""The examples of README.md."""

import doctest
import unittest
from pathlib import Path

README = Path(__file__).resolve().parent.parent / "README.md"


class ReadmeTest(unittest.TestCase):

    def test_examples(self):
        # A line of ``` would count as expected output.
        text = README.read_text(encoding="utf-8").replace("```", "")
        test = doctest.DocTestParser().get_doctest(text, {}, "README.md", str(README), 0)
        self.assertGreater(len(test.examples), 0)
        failures, tried = doctest.DocTestRunner(verbose=False).run(test)
        self.assertEqual(failures, 0)


if __name__ == "__main__":
    unittest.main()
