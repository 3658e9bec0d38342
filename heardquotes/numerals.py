"""Numbers as they are written: decimal digits without needless zeros, fractions in lowest terms."""

from heardquotes.ratios import Ratio

DIGITS = "0123456789"


def is_count_text(text):
    """Whether the string is a COUNT as it is written."""
    return text != "" and all([sign in DIGITS for sign in text]) and (text == "0" or text[0] != "0")


def number_in(text):
    """The Ratio of which the string is the written form; None if it is that of none."""
    top, stroke, bottom = text.partition("/")
    size = top[1:] if top.startswith("-") else top
    if not is_count_text(size) or stroke != "" and not is_count_text(bottom) or bottom == "0":
        return None
    found = Ratio(int(top), int(bottom) if stroke != "" else 1)
    # What is not in lowest terms, and -0, is written otherwise.
    return found if str(found) == text else None


def place_in(text, many):
    """The number below so many, at most ten, of which the string is the written form; None if it is that of none."""
    if len(text) != 1 or not is_count_text(text):
        return None
    place = int(text)
    return place if place < many else None
