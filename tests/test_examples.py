"""The examples of the interface and those of README.md."""

import doctest
import os
import unittest

HERE = os.path.dirname(os.path.abspath(__file__))


class ExamplesTest(unittest.TestCase):
    def check_examples(self, *path):
        with open(os.path.join(HERE, *path), encoding="ascii") as file:
            # The end of a block in README.md is no answer of an example.
            text = file.read().replace("```", "")
        test = doctest.DocTestParser().get_doctest(text, {}, path[-1], path[-1], 0)
        found = []
        results = doctest.DocTestRunner(verbose=False).run(test, out=found.append)
        self.assertEqual(results.failed, 0, "".join(found))
        return results.attempted

    def test_the_interface(self):
        self.assertGreater(self.check_examples("examples.txt"), 40)

    def test_the_readme(self):
        self.assertGreater(self.check_examples("..", "README.md"), 20)
