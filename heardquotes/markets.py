"""Markets: a machine, the letters that are heard, and a board; their stands, and the ways between these."""

from heardquotes.basics import is_place_below, is_rising
from heardquotes.checks import check_fit, check_heard, check_word
from heardquotes.errors import InvalidStand, UnheardLetter
from heardquotes.hearing import Hearing
from heardquotes.ways import explored, led_by, words_from

MOST_STANDS = 20


class Market:
    """What is heard of a machine, and the board that is quoted beside it."""

    def __init__(self, machine, heard, board):
        check_heard(machine, heard)
        for letter in board.letters:
            if letter not in heard:
                raise UnheardLetter(letter)
        self._machine = machine
        self._heard = heard
        self._board = board
        self._leads = stand_leads(machine, heard, board)

    @property
    def machine(self):
        return self._machine

    @property
    def heard(self):
        return self._heard

    @property
    def board(self):
        return self._board

    def with_board(self, board):
        return Market(self._machine, self._heard, board)

    def with_heard(self, heard):
        return Market(self._machine, heard, self._board)

    def leads(self):
        """From the stands, in the sequence in which they are come to, to the dicts from next letters to next stands.

        Only for reading: it is the market's own.
        """
        return self._leads

    def __eq__(self, other):
        if not isinstance(other, Market) or self._heard != other._heard:
            return False
        return self._machine == other._machine and self._board == other._board

    def __repr__(self):
        return f"Market({self._machine!r}, {self._heard!r}, {self._board!r})"


def stand_leads(machine, heard, board):
    hearing = Hearing(machine, heard)
    return explored((hearing.first(), 0), lambda stand: leads_of(hearing, board, stand), MOST_STANDS, "stands")


def leads_of(hearing, board, stand):
    chart, state = stand
    return {letter: (then, board.then(state, letter)) for letter, then in hearing.ways(chart).items()}


def is_stand(market, value):
    """Whether any value is a stand of the market; its numbers are looked at first, for True would be found as 1."""
    if not isinstance(value, tuple) or len(value) != 2:
        return False
    if not is_rising(value[0], market.machine.places) or not is_place_below(value[1], market.board.states):
        return False
    return value in market.leads()


def check_stand(market, stand):
    if not is_stand(market, stand):
        raise InvalidStand(stand)


def check_claim(market, claim):
    check_fit(market.machine, market.heard, claim)


def first_stand(market):
    return list(market.leads())[0]


def next_letters_of(market, stand):
    check_stand(market, stand)
    return "".join(list(market.leads()[stand]))


def next_stands(market, stand):
    check_stand(market, stand)
    return {letter: then for letter, then in market.leads()[stand].items()}


def stands(market):
    return list(market.leads())


def stand_behind(market, word):
    check_word(word)
    passed = led_by(market.leads(), first_stand(market), word)
    return None if passed is None else passed[-1]


def word_to(market, stand):
    check_stand(market, stand)
    return words_from(market.leads(), first_stand(market))[stand]
