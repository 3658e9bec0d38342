import unittest

from helper import ODD_VALUES

from heardquotes.basics import is_count, is_heard, is_integer, is_letter, is_word
from heardquotes.ratios import Ratio, is_number

HUGE = 10 ** 40


class Basics(unittest.TestCase):
    def judged(self, judge, right, wrong):
        for value in right:
            self.assertIs(judge(value), True, value)
            self.assertIs(judge(value=value), True, value)
        for value in wrong:
            self.assertIs(judge(value), False, value)

    def test_integers(self):
        self.judged(is_integer, [0, 1, -1, HUGE, -HUGE], [*ODD_VALUES, Ratio(1), "1", [1]])

    def test_counts(self):
        self.judged(is_count, [0, 1, HUGE], [*ODD_VALUES, -1, -HUGE, Ratio(1), "1"])

    def test_letters(self):
        self.judged(is_letter, list("abcdefghijklmnopqrstuvwxyz"),
                    [*ODD_VALUES, "aa", "ab", "Z", "`", "{", " ", "-", "\n", 97, ["a"], ("a",)])

    def test_words(self):
        self.judged(is_word, ["", "a", "zz", "ba", "abcdefghijklmnopqrstuvwxyz", "a" * 4000],
                    [value for value in ODD_VALUES if value != ""] + ["a b", "aB", "a\n", "a1", ["a"], ("a", "b")])

    def test_heard_letters(self):
        self.judged(is_heard, ["", "a", "az", "bcd", "abcdefghijklmnopqrstuvwxyz"],
                    [value for value in ODD_VALUES if value != ""] + ["ba", "aa", "abb", "acb", "Ab", ["a"], ("a", "b")])

    def test_numbers(self):
        self.judged(is_number, [0, -7, HUGE, Ratio(0), Ratio(-1, 3)], [*ODD_VALUES, "1", [1], Ratio])


if __name__ == "__main__":
    unittest.main()
