"""Desks: coins, positions and plans along what is heard, by commands that can be taken back."""

from heardquotes.basics import is_list
from heardquotes.books import Book
from heardquotes.commands import DEED_WORDS, is_command, is_deed, is_name
from heardquotes.deeds import DEEDS
from heardquotes.errors import CommandFailed, InvalidCommand, InvalidLines, InvalidName, InvalidPlan, InvalidPlans
from heardquotes.errors import LimitError, MarketError, MissingError, NameTaken, NothingToRedo, NothingToUndo
from heardquotes.errors import StateError, Stopped, TooMany, UnknownName
from heardquotes.folded import is_plan
from heardquotes.markets import check_claim
from heardquotes.questions import QUESTIONS
from heardquotes.ratios import as_ratio, check_number
from heardquotes.spans import is_plan_of_own_length, longest_of
from heardquotes.spots import Plan, Setting, first_spot

MOST_PLANS = 12
MOST_DEEDS = 300


class Desk:
    """A market, a claim and coins; it alone of all that this package has does change."""

    def __init__(self, market, claim, number):
        check_number(number)
        check_claim(market, claim)
        self._market = market
        self._claim = claim
        self._book = Book({}, first_spot(market, claim, as_ratio(number)), [], [])

    @classmethod
    def again(cls, market, claim, number, plans, lines):
        desk = cls(market, claim, number)
        if not isinstance(plans, dict):
            raise InvalidPlans(plans)
        names = sorted([key for key in plans if isinstance(key, str)])
        for name in [key for key in plans if not isinstance(key, str)] + names:
            desk[name] = plans[name]
        check_lines(lines)
        desk.do_all(*lines)
        return desk

    @property
    def market(self):
        return self._market

    @property
    def claim(self):
        return self._claim

    @property
    def coins(self):
        return self._book.spot.coins

    @property
    def word(self):
        return self._book.spot.word

    @property
    def stand(self):
        return self._book.spot.stand

    @property
    def is_stopped(self):
        return self._book.spot.is_stopped

    @property
    def held(self):
        return self._book.spot.held

    def __len__(self):
        return len(self._book.done)

    def __contains__(self, name):
        return isinstance(name, str) and name in self._book.plans

    def __getitem__(self, name):
        if not isinstance(name, str) or name not in self._book.plans:
            raise UnknownName(name)
        return self._book.plans[name].told()

    def __setitem__(self, name, plan):
        if not is_name(name):
            raise InvalidName(name)
        if name in self._book.plans:
            raise NameTaken(name)
        kept = kept_plan(self._market, self._claim, plan)
        if len(self._book.plans) == MOST_PLANS:
            raise TooMany("plans", MOST_PLANS)
        self._book = self._book.with_plan(name, kept)

    def __iter__(self):
        raise TypeError("a desk is not iterated over")

    def __call__(self, command):
        return self.do(command)

    def do(self, command):
        if not is_command(command):
            raise InvalidCommand(command)
        word, *rest = command.split(" ")
        if word == "undo":
            return self._undo()
        if word == "redo":
            return self._redo()
        setting, spot = Setting(self._market, self._claim, self._book.plans), self._book.spot
        if word not in DEED_WORDS:
            question = QUESTIONS[word]
            return question(setting, spot, rest)
        if spot.is_stopped:
            raise Stopped()
        deed = DEEDS[word]
        fresh, answer = deed(setting, spot, rest)
        self._check_room()
        self._book = self._book.with_deed(command, fresh)
        return answer

    def _check_room(self):
        if len(self._book.done) == MOST_DEEDS:
            raise TooMany("deeds", MOST_DEEDS)

    def _undo(self):
        if not self._book.done:
            raise NothingToUndo()
        line, _ = self._book.done[-1]
        self._book = self._book.taken_back()
        return line

    def _redo(self):
        if not self._book.undone:
            raise NothingToRedo()
        self._check_room()
        line, _ = self._book.undone[-1]
        self._book = self._book.done_again()
        return line

    def do_all(self, *commands):
        kept = self._book
        answers = []
        for position, command in enumerate(commands):
            try:
                answers.append(self.do(command))
            except (MarketError, MissingError, StateError, LimitError) as why:
                self._book = kept
                raise CommandFailed(position) from why
        return answers

    def attempt(self, *commands):
        with Trial(self) as held:
            return held.do_all(*commands)

    def log(self):
        return [line for line, _ in self._book.done]

    def copy(self):
        fresh = Desk(self._market, self._claim, 0)
        fresh._book = self._book
        return fresh


class Trial:
    """A block behind which all of a desk is as it was ahead of it."""

    def __init__(self, desk):
        self._desk = desk
        self._kept = desk._book

    def __enter__(self):
        self._kept = self._desk._book
        return self._desk

    def __exit__(self, kind, value, trace):
        self._desk._book = self._kept


def tried(desk, action):
    with Trial(desk) as held:
        return action(held)


def kept_plan(market, claim, plan):
    if is_plan(market, claim, plan):
        return Plan(None, plan)
    if is_plan_of_own_length(market, claim, plan):
        return Plan(longest_of(plan), plan)
    raise InvalidPlan(plan)


def check_lines(lines):
    if not is_list(lines):
        raise InvalidLines(None)
    for position, line in enumerate(lines):
        if not is_deed(line):
            raise InvalidLines(position)
