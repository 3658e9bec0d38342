import inspect
import re
import unittest

from helper import ODD_VALUES

from heardquotes import errors

FAMILIES = {
    "MarketError": (ValueError, """InvalidHeard(value), InvalidWord(value), InvalidLetter(value), InvalidPlace(value),
        InvalidStand(value), InvalidNumber(value), InvalidMany(value), DividedByZero(), InvalidAim(value),
        InvalidBegins(position), InvalidBell(value), InvalidBells(value), InvalidBoard(value), InvalidChart(value),
        InvalidClaims(position), InvalidCoins(value), InvalidCommand(value), InvalidDues(value), InvalidFlow(value),
        InvalidHold(position), InvalidLate(value), InvalidLetters(value), InvalidLines(position), InvalidName(value),
        InvalidOrder(value), InvalidOther(value), InvalidPaper(value), InvalidPlaces(value), InvalidPlan(value),
        InvalidPlans(value), InvalidPosition(value), InvalidPrices(value), InvalidQuote(value), InvalidRing(value),
        InvalidRow(value), InvalidRows(position), InvalidRun(value), InvalidState(value), InvalidStep(value),
        InvalidSteps(position), InvalidText(line), InvalidThesis(value), InvalidThing(value), InvalidTolls(value),
        InvalidTurns(value), InvalidUnknowns(value), InvalidValues(value), InvalidWeights(value),
        OtherUnknowns(one, other)"""),
    "MissingError": (LookupError, "UnknownPlace(place), UnheardLetter(letter), NotNext(letter), UnknownName(value)"),
    "StateError": (RuntimeError, """CommandFailed(position), HasTolls(letter), ManyStates(count), NameTaken(name),
        NoRoom(), NoSolution(), NothingToRedo(), NothingToUndo(), OtherTolls(letter), Stopped()"""),
    "LimitError": (ArithmeticError, "TooMany(what, limit)"),
}


def listed():
    for family, (_, text) in FAMILIES.items():
        for name, names in re.findall(r"(\w+)\(([^)]*)\)", text):
            yield family, name, [part.strip() for part in names.split(",") if part]


class Errors(unittest.TestCase):
    def test_families(self):
        for family, (above, _) in FAMILIES.items():
            self.assertEqual(getattr(errors, family).__bases__, (above,))

    def test_each_error_has_its_family_and_attributes(self):
        for family, name, names in listed():
            with self.subTest(name):
                made = getattr(errors, name)
                self.assertEqual(made.__bases__, (getattr(errors, family),))
                for value in ODD_VALUES:
                    by_position = made(*[value for _ in names])
                    by_name = made(**{part: value for part in names})
                    for part in names:
                        self.assertIs(getattr(by_position, part), value)
                        self.assertIs(getattr(by_name, part), value)

    def test_attributes_keep_their_sequence(self):
        error = errors.TooMany("rows", 24)
        self.assertEqual((error.what, error.limit), ("rows", 24))
        error = errors.OtherUnknowns(1, 2)
        self.assertEqual((error.one, error.other), (1, 2))

    def test_there_are_no_others(self):
        names = {name for name, value in vars(errors).items() if inspect.isclass(value)}
        self.assertEqual(names, {name for _, name, _ in listed()} | set(FAMILIES))
        self.assertEqual(len(names), 68)

    def test_they_can_be_raised(self):
        for _, name, names in listed():
            with self.assertRaises(getattr(errors, name)):
                raise getattr(errors, name)(*[None for _ in names])


if __name__ == "__main__":
    unittest.main()
