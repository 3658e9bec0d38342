"""The errors of the package: four families, each error with the attributes that it is made with."""


class MarketError(ValueError):
    """What was passed is not what it has to be."""


class InvalidHeard(MarketError):
    def __init__(self, value):
        self.value = value


class InvalidWord(MarketError):
    def __init__(self, value):
        self.value = value


class InvalidLetter(MarketError):
    def __init__(self, value):
        self.value = value


class InvalidPlace(MarketError):
    def __init__(self, value):
        self.value = value


class InvalidStand(MarketError):
    def __init__(self, value):
        self.value = value


class InvalidNumber(MarketError):
    def __init__(self, value):
        self.value = value


class InvalidMany(MarketError):
    def __init__(self, value):
        self.value = value


class DividedByZero(MarketError):
    """Nothing can be divided by 0."""


class InvalidAim(MarketError):
    def __init__(self, value):
        self.value = value


class InvalidBegins(MarketError):
    def __init__(self, position):
        self.position = position


class InvalidBell(MarketError):
    def __init__(self, value):
        self.value = value


class InvalidBells(MarketError):
    def __init__(self, value):
        self.value = value


class InvalidBoard(MarketError):
    def __init__(self, value):
        self.value = value


class InvalidChart(MarketError):
    def __init__(self, value):
        self.value = value


class InvalidClaims(MarketError):
    def __init__(self, position):
        self.position = position


class InvalidCoins(MarketError):
    def __init__(self, value):
        self.value = value


class InvalidCommand(MarketError):
    def __init__(self, value):
        self.value = value


class InvalidDues(MarketError):
    def __init__(self, value):
        self.value = value


class InvalidFlow(MarketError):
    def __init__(self, value):
        self.value = value


class InvalidHold(MarketError):
    def __init__(self, position):
        self.position = position


class InvalidLate(MarketError):
    def __init__(self, value):
        self.value = value


class InvalidLetters(MarketError):
    def __init__(self, value):
        self.value = value


class InvalidLines(MarketError):
    def __init__(self, position):
        self.position = position


class InvalidName(MarketError):
    def __init__(self, value):
        self.value = value


class InvalidOrder(MarketError):
    def __init__(self, value):
        self.value = value


class InvalidOther(MarketError):
    def __init__(self, value):
        self.value = value


class InvalidPaper(MarketError):
    def __init__(self, value):
        self.value = value


class InvalidPlaces(MarketError):
    def __init__(self, value):
        self.value = value


class InvalidPlan(MarketError):
    def __init__(self, value):
        self.value = value


class InvalidPlans(MarketError):
    def __init__(self, value):
        self.value = value


class InvalidPosition(MarketError):
    def __init__(self, value):
        self.value = value


class InvalidPrices(MarketError):
    def __init__(self, value):
        self.value = value


class InvalidQuote(MarketError):
    def __init__(self, value):
        self.value = value


class InvalidRing(MarketError):
    def __init__(self, value):
        self.value = value


class InvalidRow(MarketError):
    def __init__(self, value):
        self.value = value


class InvalidRows(MarketError):
    def __init__(self, position):
        self.position = position


class InvalidRun(MarketError):
    def __init__(self, value):
        self.value = value


class InvalidState(MarketError):
    def __init__(self, value):
        self.value = value


class InvalidStep(MarketError):
    def __init__(self, value):
        self.value = value


class InvalidSteps(MarketError):
    def __init__(self, position):
        self.position = position


class InvalidText(MarketError):
    def __init__(self, line):
        self.line = line


class InvalidThesis(MarketError):
    def __init__(self, value):
        self.value = value


class InvalidThing(MarketError):
    def __init__(self, value):
        self.value = value


class InvalidTolls(MarketError):
    def __init__(self, value):
        self.value = value


class InvalidTurns(MarketError):
    def __init__(self, value):
        self.value = value


class InvalidUnknowns(MarketError):
    def __init__(self, value):
        self.value = value


class InvalidValues(MarketError):
    def __init__(self, value):
        self.value = value


class InvalidWeights(MarketError):
    def __init__(self, value):
        self.value = value


class OtherUnknowns(MarketError):
    def __init__(self, one, other):
        self.one = one
        self.other = other


class MissingError(LookupError):
    """What was asked for is not there."""


class UnknownPlace(MissingError):
    def __init__(self, place):
        self.place = place


class UnheardLetter(MissingError):
    def __init__(self, letter):
        self.letter = letter


class NotNext(MissingError):
    def __init__(self, letter):
        self.letter = letter


class UnknownName(MissingError):
    def __init__(self, value):
        self.value = value


class StateError(RuntimeError):
    """It cannot be done as things are."""


class CommandFailed(StateError):
    def __init__(self, position):
        self.position = position


class HasTolls(StateError):
    def __init__(self, letter):
        self.letter = letter


class ManyStates(StateError):
    def __init__(self, count):
        self.count = count


class NameTaken(StateError):
    def __init__(self, name):
        self.name = name


class NoRoom(StateError):
    """A ring owes already."""


class NoSolution(StateError):
    """No values solve the program."""


class NothingToRedo(StateError):
    """No deed was taken back."""


class NothingToUndo(StateError):
    """No deed can be taken back."""


class OtherTolls(StateError):
    def __init__(self, letter):
        self.letter = letter


class Stopped(StateError):
    """The desk has stopped."""


class LimitError(ArithmeticError):
    """There would be more than a limit allows."""


class TooMany(LimitError):
    def __init__(self, what, limit):
        self.what = what
        self.limit = limit
