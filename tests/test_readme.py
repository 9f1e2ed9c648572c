"""The examples of the README, as they stand."""

import doctest
import pathlib
import unittest

README = pathlib.Path(__file__).resolve().parent.parent / "README.md"


class Readme(unittest.TestCase):

    def test_the_examples(self):
        text = "\n".join([line for line in README.read_text(encoding="utf-8").split("\n")
                          if not line.startswith("```")])
        found = doctest.DocTestParser().get_doctest(text, {}, "README", "README.md", 0)
        self.assertGreater(len(found.examples), 10)
        told = []
        runner = doctest.DocTestRunner(verbose=False)
        runner.run(found, out=told.append)
        self.assertEqual("".join(told), "")


if __name__ == "__main__":
    unittest.main()
