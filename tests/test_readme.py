"""The examples of README.md."""

import doctest
import pathlib
import unittest

README = pathlib.Path(__file__).resolve().parent.parent / "README.md"


class Readme(unittest.TestCase):
    def test_examples(self):
        examples = doctest.DocTestParser().get_doctest(README.read_text(), {}, "README.md", None, 0)
        told = []
        outcome = doctest.DocTestRunner(verbose=False).run(examples, out=told.append)
        self.assertGreater(outcome.attempted, 0)
        self.assertEqual(outcome.failed, 0, "".join(told))


if __name__ == "__main__":
    unittest.main()
