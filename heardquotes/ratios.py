"""Fractions in lowest terms, and what is reckoned with integers and fractions alike."""

from math import gcd, lcm

from heardquotes.basics import is_integer, is_list
from heardquotes.errors import DividedByZero, InvalidNumber


def is_number(value):
    return is_integer(value) or isinstance(value, Ratio)


class Ratio:
    """A fraction in lowest terms; its bottom is at least 1."""

    def __init__(self, top, bottom=1):
        if not is_integer(top):
            raise InvalidNumber(top)
        if not is_integer(bottom) or bottom == 0:
            raise InvalidNumber(bottom)
        shared = gcd(top, bottom)
        if bottom < 0:
            shared = -shared
        self._top = top // shared
        self._bottom = bottom // shared

    @classmethod
    def total(cls, numbers):
        if not is_list(numbers):
            raise InvalidNumber(numbers)
        reckoned = cls(0)
        for number in numbers:
            reckoned = reckoned + number
        return reckoned

    @property
    def top(self):
        return self._top

    @property
    def bottom(self):
        return self._bottom

    @property
    def sign(self):
        if self._top < 0:
            return -1
        return 1 if self._top > 0 else 0

    @property
    def is_whole(self):
        return self._bottom == 1

    def __add__(self, other):
        number = as_ratio(other)
        top = self._top * number.bottom + number.top * self._bottom
        return Ratio(top, self._bottom * number.bottom)

    def __radd__(self, other):
        if not is_integer(other):
            return NotImplemented
        return as_ratio(other) + self

    def __sub__(self, other):
        number = as_ratio(other)
        top = self._top * number.bottom - number.top * self._bottom
        return Ratio(top, self._bottom * number.bottom)

    def __rsub__(self, other):
        if not is_integer(other):
            return NotImplemented
        return as_ratio(other) - self

    def __mul__(self, other):
        number = as_ratio(other)
        return Ratio(self._top * number.top, self._bottom * number.bottom)

    def __rmul__(self, other):
        if not is_integer(other):
            return NotImplemented
        return as_ratio(other) * self

    def __neg__(self):
        return Ratio(-self._top, self._bottom)

    def over(self, other):
        number = as_ratio(other)
        if number.sign == 0:
            raise DividedByZero()
        return Ratio(self._top * number.bottom, self._bottom * number.top)

    def size(self):
        return Ratio(abs(self._top), self._bottom)

    def is_below(self, other):
        number = as_ratio(other)
        return self._top * number.bottom < number.top * self._bottom

    def is_at_most(self, other):
        number = as_ratio(other)
        return self._top * number.bottom <= number.top * self._bottom

    def __eq__(self, other):
        return isinstance(other, Ratio) and self._top == other._top and self._bottom == other._bottom

    def __str__(self):
        if self._bottom == 1:
            return f"{self._top}"
        return f"{self._top}/{self._bottom}"

    def __repr__(self):
        return f"Ratio({self._top}, {self._bottom})"


def check_number(number):
    if not is_number(number):
        raise InvalidNumber(number)


def as_ratio(number):
    """The Ratio of this worth; InvalidNumber unless it is a NUMBER."""
    if isinstance(number, Ratio):
        return number
    return Ratio(number)


def as_ratios(numbers):
    return [as_ratio(number) for number in numbers]


def is_at_least_zero(value):
    return is_number(value) and as_ratio(value).sign >= 0


def are_numbers(value, many):
    """Whether any value is a list of just so many NUMBERS."""
    return is_list(value) and len(value) == many and all([is_number(number) for number in value])


def are_at_least_zero(value, many):
    """Whether any value is a list of just so many NUMBERS, none of them below 0."""
    return is_list(value) and len(value) == many and all([is_at_least_zero(number) for number in value])


def are_parts_of_one(values):
    """Whether all of a list of any values are NUMBERS that are at least 0, their sum 1."""
    return all([is_at_least_zero(value) for value in values]) and Ratio.total(values) == Ratio(1)


def products(numbers, others):
    """The sum of the products of the numbers, each with the other one at its position."""
    reckoned = Ratio(0)
    for number, other in zip(numbers, others):
        reckoned = reckoned + as_ratio(number) * other
    return reckoned


def greatest(ratios):
    """The greatest one of at least one Ratio."""
    best = ratios[0]
    for ratio in ratios[1:]:
        if best.is_below(ratio):
            best = ratio
    return best


def shared_bottom(ratios):
    """The least integer above 0 by which all these Ratios become whole."""
    scale = 1
    for ratio in ratios:
        scale = lcm(scale, ratio.bottom)
    return scale
