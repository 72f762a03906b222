"""What tests/examples.txt shows is what the program does."""

import doctest
import pathlib
import unittest

EXAMPLES = pathlib.Path(__file__).resolve().parent / "examples.txt"


class TestExamples(unittest.TestCase):
    def test_each_example(self):
        parts = EXAMPLES.read_text(encoding="utf-8").split("\n\n")[1:]
        self.assertGreater(len(parts), 15)
        for part in parts:
            example = doctest.DocTestParser().get_doctest(part + "\n", {}, "examples", str(EXAMPLES), 0)
            self.assertEqual(doctest.DocTestRunner(verbose=False).run(example).failed, 0, part)


if __name__ == "__main__":
    unittest.main()
