"""Runs the examples of the document, word for word; names go on from one example to the next."""

import doctest
import unittest
from pathlib import Path

import helper  # noqa: F401  (it lets the package be imported)


class Examples(unittest.TestCase):
    def test_all_examples(self):
        path = Path(__file__).resolve().parent / "examples.txt"
        result = doctest.testfile(str(path), module_relative=False)
        self.assertGreater(result.attempted, 0)
        self.assertEqual(result.failed, 0)


if __name__ == "__main__":
    unittest.main()
