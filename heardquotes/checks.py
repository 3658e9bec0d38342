"""The errors that belong to parameters of one name everywhere."""

from heardquotes.basics import is_count, is_heard, is_letter, is_place_below, is_word
from heardquotes.errors import InvalidHeard, InvalidLetter, InvalidMany, InvalidPlace, InvalidState, InvalidWord
from heardquotes.errors import TooMany, UnheardLetter, UnknownPlace

# The greatest length of plans and flows.
MOST_LENGTH = 12


def check_heard(machine, heard):
    if not is_heard(heard) or not all([letter in machine.letters for letter in heard]):
        raise InvalidHeard(heard)


def check_word(word):
    if not is_word(word):
        raise InvalidWord(word)


def check_letter(letter):
    if not is_letter(letter):
        raise InvalidLetter(letter)


def check_place(machine, place):
    if not is_place_below(place, machine.places):
        raise InvalidPlace(place)


def check_many(many):
    if not is_count(many):
        raise InvalidMany(many)


def check_state(board, state):
    if not is_place_below(state, board.states):
        raise InvalidState(state)


def check_fit(machine, heard, claim):
    """Whether the claim speaks only of places of the machine, and of heard letters."""
    for place in claim.dues():
        if place >= machine.places:
            raise UnknownPlace(place)
    for letter in claim.tolls():
        if letter not in heard:
            raise UnheardLetter(letter)


def check_length(many):
    if many > MOST_LENGTH:
        raise TooMany("letters", MOST_LENGTH)
