"""Boards: states with quotes, and turns from state to state by the letters that are heard."""

from heardquotes.basics import is_letter, is_list, is_place_below
from heardquotes.checks import check_letter, check_state, check_word
from heardquotes.errors import InvalidBoard, InvalidNumber, InvalidQuote, InvalidRows, InvalidTurns, TooMany
from heardquotes.quotes import as_quote, is_quote, times_quote
from heardquotes.ratios import as_ratio, is_number


class Board:
    """States numbered from 0, each with a row of quotes; without a turn a state stays."""

    MOST_STATES = 4
    MOST_QUOTES = 4

    def __init__(self, rows, turns=None):
        check_quotes(rows)
        if turns is not None and not are_turns(turns, len(rows)):
            raise InvalidTurns(turns)
        self._rows = [[as_quote(quote) for quote in row] for row in rows]
        self._turns = real_turns({} if turns is None else turns)
        self._letters = letters_of_board(self._rows, self._turns)

    @property
    def states(self):
        return len(self._rows)

    @property
    def letters(self):
        return self._letters

    def quotes(self, state):
        check_state(self, state)
        return [as_quote(quote) for quote in self._rows[state]]

    def turns(self):
        return {key: self._turns[key] for key in self._turns}

    def then(self, state, letter):
        check_state(self, state)
        check_letter(letter)
        return self._turns.get((state, letter), state)

    def state_behind(self, word):
        check_word(word)
        state = 0
        for letter in word:
            state = self._turns.get((state, letter), state)
        return state

    def with_quote(self, state, quote):
        check_state(self, state)
        if not is_quote(quote):
            raise InvalidQuote(quote)
        if len(self._rows[state]) == Board.MOST_QUOTES:
            raise TooMany("quotes", Board.MOST_QUOTES)
        return self._with_row(state, self._rows[state] + [quote])

    def without_quote(self, state, number):
        check_state(self, state)
        row = self._rows[state]
        if not is_place_below(number, len(row)):
            raise InvalidNumber(number)
        return self._with_row(state, row[:number] + row[number + 1:])

    def _with_row(self, state, row):
        return Board(self._rows[:state] + [row] + self._rows[state + 1:], self._turns)

    def beside(self, other):
        if not isinstance(other, Board):
            raise InvalidBoard(other)
        if self.states * other.states > Board.MOST_STATES:
            raise TooMany("states", Board.MOST_STATES)
        rows = [mine + yours for mine in self._rows for yours in other._rows]
        if max([len(row) for row in rows]) > Board.MOST_QUOTES:
            raise TooMany("quotes", Board.MOST_QUOTES)
        return Board(rows, turns_beside(self, other))

    def __mul__(self, other):
        if not is_number(other) or as_ratio(other).sign <= 0:
            raise InvalidNumber(other)
        return Board([[times_quote(quote, other) for quote in row] for row in self._rows], self._turns)

    def __eq__(self, other):
        return isinstance(other, Board) and self._rows == other._rows and self._turns == other._turns

    def __repr__(self):
        return f"Board({self._rows!r}, {self._turns!r})"


def check_quotes(rows):
    if not is_list(rows) or len(rows) == 0 or len(rows) > Board.MOST_STATES:
        raise InvalidRows(None)
    for position, row in enumerate(rows):
        if not are_quotes(row):
            raise InvalidRows(position)


def are_quotes(value):
    if not is_list(value) or len(value) > Board.MOST_QUOTES:
        return False
    return all([is_quote(quote) for quote in value])


def are_turns(value, states):
    if not isinstance(value, dict) or not all([is_turn_key(key, states) for key in value]):
        return False
    return all([is_place_below(state, states) for state in value.values()])


def is_turn_key(value, states):
    if not isinstance(value, tuple) or len(value) != 2:
        return False
    return is_place_below(value[0], states) and is_letter(value[1])


def real_turns(turns):
    """The sorted turns without those that lead to their own state."""
    return {key: turns[key] for key in sorted(turns) if turns[key] != key[0]}


def letters_of_board(rows, turns):
    paid = [letter for row in rows for quote in row for letter in quote[0]]
    turned = [key[1] for key in turns]
    return "".join(sorted(set(paid + turned)))


def turns_beside(one, other):
    """The turns of the pairs of states of two boards, each of which turns by itself."""
    letters = sorted(set([key[1] for key in list(one.turns()) + list(other.turns())]))
    return {(mine * other.states + yours, letter): one.then(mine, letter) * other.states + other.then(yours, letter)
            for mine in range(one.states) for yours in range(other.states) for letter in letters}
