"""What several tests share: values of other kinds, and a short way to ask for an error with its attributes."""

import sys
from fractions import Fraction
from pathlib import Path

sys.path.insert(0, str(Path(__file__).resolve().parent.parent))

from heardquotes.ratios import Ratio  # noqa: E402

# None of them is an INTEGER, a NUMBER, a letter, a list, a tuple or a dict that would be right anywhere.
ODD_VALUES = (None, True, False, "", "0", "A", "ab ", b"a", b"", [], [None], (), (None,), {}, {None: None},
              object(), int, len, {1, 2}, frozenset(), range(3), ...)


def fraction(number):
    return Fraction(number.top, number.bottom) if isinstance(number, Ratio) else Fraction(number)


def ratio(number):
    some = Fraction(number)
    return Ratio(some.numerator, some.denominator)


def raised(call, *args, **more):
    """The error that the call raises: its class's name and its attributes, in the sequence of the constructor."""
    try:
        call(*args, **more)
    except Exception as error:
        return (error.__class__.__name__, *vars(error).values())
    return None


def is_same(one, other):
    """Equal, and of the same kinds throughout: True is not 1, a tuple is no list, dicts are in one order."""
    if one.__class__ is not other.__class__:
        return False
    if isinstance(one, (list, tuple)):
        return len(one) == len(other) and all(is_same(mine, yours) for mine, yours in zip(one, other))
    if isinstance(one, dict):
        return is_same(list(one.items()), list(other.items()))
    return one == other
