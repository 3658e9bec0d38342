"""Quotes of a board, positions in them, and what these gain at a letter."""

from heardquotes.basics import is_letter
from heardquotes.checks import check_letter
from heardquotes.errors import InvalidPosition
from heardquotes.ratios import Ratio, are_numbers, as_ratio, is_number


def is_quote(value):
    if not isinstance(value, tuple) or len(value) != 3:
        return False
    pays, bid, ask = value
    if not are_pays(pays) or not is_price(bid) or not is_price(ask):
        return False
    if bid is None or ask is None:
        return bid is not None or ask is not None
    return as_ratio(bid).is_at_most(ask)


def are_pays(value):
    if not isinstance(value, dict) or len(value) == 0:
        return False
    return all([is_letter(letter) for letter in value]) and all([is_number(paid) for paid in value.values()])


def is_price(value):
    return value is None or is_number(value)


def as_quote(quote):
    """A new quote of the same worth, its numbers as Ratios, its pays sorted."""
    pays, bid, ask = quote
    return {letter: as_ratio(pays[letter]) for letter in sorted(pays)}, as_price(bid), as_price(ask)


def as_price(price):
    return None if price is None else as_ratio(price)


def times_quote(quote, number):
    """The quote, of Ratios, with its pays and prices so many times as great."""
    pays, bid, ask = quote
    return {letter: pays[letter] * number for letter in pays}, times_price(bid, number), times_price(ask, number)


def times_price(price, number):
    return None if price is None else price * number


def is_position(board, state, value):
    quotes = board.quotes(state)
    if not are_numbers(value, len(quotes)):
        return False
    return all([can_hold(quote, number) for quote, number in zip(quotes, value)])


def can_hold(quote, number):
    """Whether so many pieces can be bought (above 0) or sold (below 0) at this quote."""
    _, bid, ask = quote
    side = as_ratio(number).sign
    return side == 0 or side > 0 and ask is not None or side < 0 and bid is not None


def gain(board, state, position, letter):
    if not is_position(board, state, position):
        raise InvalidPosition(position)
    check_letter(letter)
    return Ratio.total([gain_of(quote, number, letter) for quote, number in zip(board.quotes(state), position)])


def gain_of(quote, number, letter):
    """What so many pieces of a quote gain at the letter: nothing where it is called off."""
    pays, bid, ask = quote
    pieces = as_ratio(number)
    if pieces.sign == 0 or letter not in pays:
        return Ratio(0)
    return (pays[letter] - (ask if pieces.sign > 0 else bid)) * pieces
