import unittest

from helper import ODD_VALUES, raised

from heardquotes.commands import is_command, is_deed, number_text
from heardquotes.ratios import Ratio

BARE = "leave undo redo word stand coins floor short position follows plans next live gains cover spare kind".split()
RIGHT = ["hear a", "hear z", "hold", "hold 0", "hold -1", "hold 3/2", "hold 1/2 -3", "hold 0 0 0 0 0", "hold 999999/999998", "hold -999999 1/999999",
         "follow a", "follow a1b2c3d4", "follow hold", "follow z9", "stop 0", "stop 7", "stop 8", "stop 999999", "need 0", "need 13", "need 100000", *BARE]
WRONG = ["", " ", "hear", "hear ", "hear  a", "hear A", "hear ab", "hear 1", "hear -", "hear a ", " hear a", "hear a b", "Hear a", "heara", "hear a\n", "hear\na",
         "hold ", "hold  1", "hold 1 ", "hold 1  2", "hold 2/4", "hold 1/1", "hold 01", "hold -0", "hold 1/0", "hold 0/1", "hold +1", "hold 1.5", "hold --1", "hold 1/-2",
         "hold a", "hold -", "hold 1000000", "hold 1/1000000", "hold -1000000", "hold 1/2/3", "hold /2", "hold 1/", "hold 1-", "hold 00", "hold 1,2",
         "follow", "follow ", "follow 1a", "follow A", "follow a_b", "follow abcdefghi", "follow a b", "follow a-b", "follow -", "follow aB",
         "stop", "stop ", "stop -1", "stop 01", "stop 00", "stop 1000000", "stop a", "stop 1 2", "stop 1/2", "stop +1", "need", "need -1", "need 01", "need x", "need 1000000",
         "need 1 1", "holds 1", "again", "log", "copy", "stand 0", "undo 1", *[word + " " for word in BARE], *[word + " a" for word in BARE],
         *[word.upper() for word in BARE], "hear a;leave", "leave leave", "-"]


class Commands(unittest.TestCase):
    def test_what_is_a_command(self):
        for value in RIGHT:
            self.assertIs(is_command(value=value), True, value)
        for value in [*ODD_VALUES, *WRONG, 0, b"leave", ["leave"], ("leave",)]:
            self.assertIs(is_command(value), False, value)

    def test_what_is_a_deed(self):
        for value in RIGHT:
            self.assertIs(is_deed(value=value), value.split(" ")[0] in ("hear", "hold", "follow", "leave", "stop"), value)
        for value in [*ODD_VALUES, *WRONG, 0, b"leave", ["leave"], ("leave",)]:
            self.assertIs(is_deed(value), False, value)

    def test_how_numbers_are_written(self):
        for number, text in ((4, "4"), (-1, "-1"), (0, "0"), (Ratio(3, 2), "3/2"), (Ratio(-6, 4), "-3/2"), (Ratio(4, 2), "2"), (Ratio(0, 5), "0"),
                             (10 ** 30, "1" + "0" * 30), (Ratio(1, 10 ** 30), "1/1" + "0" * 30)):
            self.assertEqual(number_text(number=number), text)
        for value in [*ODD_VALUES, "1"]:
            self.assertEqual(raised(number_text, value), ("InvalidNumber", value))


if __name__ == "__main__":
    unittest.main()
