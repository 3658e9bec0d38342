"""Commands of a desk, as they are written."""

from heardquotes.basics import LETTERS, is_letter
from heardquotes.numerals import DIGITS, is_count_text, number_in
from heardquotes.ratios import as_ratio

DEED_WORDS = ("hear", "hold", "follow", "leave", "stop")
# These words stand alone.
BARE_WORDS = ("leave", "undo", "redo", "word", "stand", "coins", "floor", "short", "position", "follows", "plans",
              "next", "live", "gains", "cover", "spare", "kind")
MOST_DIGITS = 6
MOST_SIGNS = 8


def is_name(value):
    """Whether any value is a string of one to eight small letters and digits, the first one a letter."""
    if not isinstance(value, str) or len(value) == 0 or len(value) > MOST_SIGNS:
        return False
    return value[0] in LETTERS and all([sign in LETTERS or sign in DIGITS for sign in value])


def is_short_count(text):
    return len(text) <= MOST_DIGITS and is_count_text(text)


def is_short_number(text):
    """Whether the string is the written form of a number with at most six digits above and below the stroke."""
    if not all([len(digits) <= MOST_DIGITS for digits in text.replace("-", "").split("/")]):
        return False
    return number_in(text) is not None


def is_command(value):
    if not isinstance(value, str):
        return False
    word, *rest = value.split(" ")
    if word == "hold":
        return all([is_short_number(text) for text in rest])
    if word in BARE_WORDS:
        return len(rest) == 0
    if len(rest) != 1:
        return False
    if word == "hear":
        return is_letter(rest[0])
    if word == "follow":
        return is_name(rest[0])
    return word in ("stop", "need") and is_short_count(rest[0])


def is_deed(value):
    return is_command(value) and value.split(" ")[0] in DEED_WORDS


def number_text(number):
    return str(as_ratio(number))
