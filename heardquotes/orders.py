"""Orders for all boards: whether one machine needs at most what another one needs, whatever is quoted."""

from heardquotes.basics import is_heard, is_list, is_rising, is_word
from heardquotes.boards import Board
from heardquotes.checks import check_fit, check_heard
from heardquotes.claims import floor
from heardquotes.errors import HasTolls, InvalidChart, InvalidHeard, OtherTolls, UnknownPlace
from heardquotes.folded import cover
from heardquotes.hearing import Hearing
from heardquotes.machines import Machine
from heardquotes.markets import Market
from heardquotes.pairings import Pairing
from heardquotes.ratios import Ratio
from heardquotes.ways import words_from


def begun_at(machine, chart):
    if not is_rising(chart, machine.places):
        raise InvalidChart(chart)
    return Machine(machine.places, machine.steps(), chart)


def asked_pairing(machine, claim, other, second, heard):
    """The pairing of a question, of which all is right that it is asked with."""
    shared = [letter for letter in machine.letters if letter in other.letters]
    if not is_heard(heard) or not all([letter in shared for letter in heard]):
        raise InvalidHeard(heard)
    check_dues(machine, claim)
    check_dues(other, second)
    check_no_tolls(claim)
    check_no_tolls(second)
    return Pairing(machine, claim, other, second, heard)


def check_dues(machine, claim):
    for place in claim.dues():
        if place >= machine.places:
            raise UnknownPlace(place)


def check_no_tolls(claim):
    letters = sorted(claim.tolls())
    if letters:
        raise HasTolls(letters[0])


def at_most_pairs(machine, claim, other, second, heard):
    return kept_pairs(asked_pairing(machine, claim, other, second, heard))


def kept_pairs(pairing):
    """The sorted list of the pairs behind words that count; None if one of them is not as it has to be."""
    pairs = sorted(pairing.counted())
    return pairs if all([pairing.is_kept(pair) for pair in pairs]) else None


def is_at_most_paper(machine, claim, other, second, heard, value):
    pairing = asked_pairing(machine, claim, other, second, heard)
    if not is_list(value) or not all([pairing.is_pair(pair) for pair in value]):
        return False
    table = {pair: True for pair in value}
    if len(table) != len(value) or pairing.first() not in table:
        return False
    return all([pairing.is_kept(pair) and leads_within(pairing, pair, table) for pair in value])


def leads_within(pairing, pair, table):
    return all([then in table for then in pairing.ways_on(pair).values()])


def apart(machine, claim, other, second, heard):
    pairing = asked_pairing(machine, claim, other, second, heard)
    for pair, word in pairing.counted().items():
        if not pairing.is_kept(pair):
            return word, parting_board(pairing, pair, heard)
    return None


def parting_board(pairing, pair, heard):
    """The board at which the one needs more, begun at a pair that is not as it has to be."""
    if not pairing.has_less_due(pair):
        return free_board(heard)
    alone = pairing.letters_alone(pair)[0]
    low, high = pairing.second_floor(pair), pairing.greatest_floor(pair)
    parts = low.over(high - low)
    times = parts.top // parts.bottom + 1
    pays = {letter: -times if letter == alone else 1 for letter in heard}
    return Board([[(pays, None, 0)], []], {(0, letter): 1 for letter in heard})


def free_board(heard):
    """What is bought for nothing pays at each letter, so that nothing but the floor is needed."""
    return Board([[({letter: 1 for letter in heard}, None, 0)] if heard != "" else []])


def is_apart(machine, claim, other, second, heard, value):
    pairing = asked_pairing(machine, claim, other, second, heard)
    pairing.counted()
    if not isinstance(value, tuple) or len(value) != 2 or not is_word(value[0]) or not isinstance(value[1], Board):
        return False
    word, board = value
    pair = pairing.pair_behind(word)
    if pair is None or not all([letter in heard for letter in board.letters]):
        return False
    mine = Market(begun_at(machine, pair[0]), heard, board)
    yours = Market(begun_at(other, pair[1]), heard, board)
    return cover(yours, second).is_below(cover(mine, claim))


def are_alike(machine, claim, other, second, heard):
    one_way = at_most_pairs(machine, claim, other, second, heard)
    other_way = at_most_pairs(other, second, machine, claim, heard)
    return one_way is not None and other_way is not None


def claim_above(machine, claim, second, heard):
    check_heard(machine, heard)
    check_fit(machine, heard, claim)
    check_fit(machine, heard, second)
    check_same_tolls(claim, second)
    hearing = Hearing(machine, heard)
    for chart, word in words_from(hearing.charts_from(hearing.first()), hearing.first()).items():
        if floor(second, chart).is_below(floor(claim, chart)):
            return word
    return None


def check_same_tolls(claim, second):
    one, two = claim.tolls(), second.tolls()
    for letter in sorted(set(list(one) + list(two))):
        if one.get(letter, Ratio(0)) != two.get(letter, Ratio(0)):
            raise OtherTolls(letter)
