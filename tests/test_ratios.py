import operator
import unittest
from fractions import Fraction
from math import gcd

from helper import ODD_VALUES, fraction, raised, ratio

from heardquotes.ratios import Ratio

SOME = [Fraction(top, bottom) for top in range(-4, 5) for bottom in range(1, 5)]
WRONG = [value for value in ODD_VALUES]


class Ratios(unittest.TestCase):
    def same(self, one, worth):
        self.assertIsInstance(one, Ratio)
        self.assertEqual((one.top, one.bottom), (worth.numerator, worth.denominator))
        self.assertIs(one.top.__class__, int)
        self.assertIs(one.bottom.__class__, int)

    def test_lowest_terms(self):
        for top in range(-12, 13):
            for bottom in [*range(-12, 0), *range(1, 13)]:
                one = Ratio(top, bottom)
                self.same(one, Fraction(top, bottom))
                self.assertGreaterEqual(one.bottom, 1)
                self.assertEqual(gcd(one.top, one.bottom), 1)
        self.same(Ratio(10 ** 60, -10 ** 59), Fraction(-10))
        self.same(Ratio(bottom=4, top=6), Fraction(3, 2))
        self.same(Ratio(5), Fraction(5))

    def test_wrong_parts(self):
        for value in WRONG:
            self.assertEqual(raised(Ratio, value), ("InvalidNumber", value))
            self.assertEqual(raised(Ratio, value, 0), ("InvalidNumber", value))
            self.assertEqual(raised(Ratio, 1, value), ("InvalidNumber", value))
        self.assertEqual(raised(Ratio, Ratio(1)), ("InvalidNumber", Ratio(1)))
        self.assertEqual(raised(Ratio, 3, 0), ("InvalidNumber", 0))
        self.assertEqual(raised(Ratio, 0, 0), ("InvalidNumber", 0))
        self.assertIs(raised(Ratio, 1, False)[1], False)
        self.assertIs(raised(Ratio, True, 1)[1], True)

    def test_properties(self):
        self.assertEqual([Ratio(top, 3).sign for top in (-2, 0, 2)], [-1, 0, 1])
        self.assertTrue(all(Ratio(top, 3).sign.__class__ is int for top in (-2, 0, 2)))
        self.assertIs(Ratio(4, 2).is_whole, True)
        self.assertIs(Ratio(0, 5).is_whole, True)
        self.assertIs(Ratio(1, 2).is_whole, False)

    def test_operators_on_both_sides(self):
        for operation in (operator.add, operator.sub, operator.mul):
            for one in SOME:
                for other in SOME:
                    self.same(operation(ratio(one), ratio(other)), operation(one, other))
                for other in range(-3, 4):
                    self.same(operation(ratio(one), other), operation(one, other))
                    self.same(operation(other, ratio(one)), operation(other, one))
        for one in SOME:
            self.same(-ratio(one), -one)
            self.same(ratio(one).size(), abs(one))

    def test_wrong_values_on_the_right(self):
        half = Ratio(1, 2)
        for value in WRONG:
            for operation in (operator.add, operator.sub, operator.mul):
                self.assertEqual(raised(operation, half, value), ("InvalidNumber", value))
            for method in (half.over, half.is_below, half.is_at_most):
                self.assertEqual(raised(method, value), ("InvalidNumber", value))
        for operation in (operator.add, operator.sub, operator.mul):
            self.assertIs(raised(operation, half, True)[1], True)

    def test_over(self):
        for one in SOME:
            for other in SOME:
                if other:
                    self.same(ratio(one).over(ratio(other)), one / other)
            self.same(ratio(one).over(other=-3), one / -3)
        self.assertEqual(raised(Ratio(1, 2).over, 0), ("DividedByZero",))
        self.assertEqual(raised(Ratio(0).over, Ratio(0)), ("DividedByZero",))

    def test_order(self):
        for one in SOME:
            for other in SOME:
                self.assertIs(ratio(one).is_below(ratio(other)), one < other)
                self.assertIs(ratio(one).is_at_most(ratio(other)), one <= other)
            for other in range(-4, 5):
                self.assertIs(ratio(one).is_below(other), one < other)
                self.assertIs(ratio(one).is_at_most(other=other), one <= other)

    def test_equality(self):
        self.assertIs(Ratio(2, 4) == Ratio(1, 2), True)
        self.assertIs(Ratio(1, 2) != Ratio(1, 2), False)
        self.assertIs(Ratio(1, 2) == Ratio(1, 3), False)
        self.assertIs(Ratio(1, 2) == Ratio(-1, 2), False)
        for value in [1, True, "1", None, Fraction(1), (1, 1)]:
            self.assertIs(Ratio(1) == value, False)
            self.assertIs(value == Ratio(1), False)
            self.assertIs(Ratio(1) != value, True)

    def test_total(self):
        self.same(Ratio.total([]), Fraction(0))
        self.same(Ratio.total(()), Fraction(0))
        self.same(Ratio.total((1, Ratio(1, 2), -4)), Fraction(-5, 2))
        self.same(Ratio.total(numbers=[Ratio(1, 3)] * 3), Fraction(1))
        self.assertEqual(raised(Ratio.total, [1, "x", None]), ("InvalidNumber", "x"))
        self.assertIs(raised(Ratio.total, [1, True])[1], True)
        for value in [None, 3, "12", {1: 1}, Ratio(1), True]:
            self.assertEqual(raised(Ratio.total, value), ("InvalidNumber", value))
        numbers = [1, 2]
        Ratio.total(numbers)
        self.assertEqual(numbers, [1, 2])

    def test_texts(self):
        self.assertEqual([str(Ratio(6, 4)), str(Ratio(-6, 2)), str(Ratio(0)), str(Ratio(1, -3))],
                         ["3/2", "-3", "0", "-1/3"])
        self.assertEqual([repr(Ratio(6, 4)), repr(Ratio(-3)), [Ratio(0)].__repr__()],
                         ["Ratio(3, 2)", "Ratio(-3, 1)", "[Ratio(0, 1)]"])

    def test_they_never_change(self):
        one, other = Ratio(1, 2), Ratio(1, 3)
        one + other, one - other, one * other, -one, one.over(other), one.size(), 3 - one
        self.assertEqual((fraction(one), fraction(other)), (Fraction(1, 2), Fraction(1, 3)))
        with self.assertRaises(AttributeError):
            one.top = 3


if __name__ == "__main__":
    unittest.main()
