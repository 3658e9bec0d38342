"""What can be done with a desk: each deed leads from one spot to another one, and has an answer."""

from heardquotes.commands import number_text
from heardquotes.errors import InvalidHold, NotNext, UnheardLetter, UnknownName, UnknownPlace
from heardquotes.fairness import moment_at
from heardquotes.numerals import number_in
from heardquotes.questions import gains_text
from heardquotes.quotes import can_hold
from heardquotes.spots import come_spot


def no_position(setting, spot):
    return moment_at(setting.market, spot.stand).noughts()


def following(setting, spot, name):
    """The spot, at which what the plan of this name tells is held; nothing if it has no such key."""
    entry = setting.plan_of(name).entry_at(spot)
    return spot.holding(no_position(setting, spot) if entry is None else entry[1], name)


def do_hear(setting, spot, rest):
    letter, market = rest[0], setting.market
    if letter not in market.heard:
        raise UnheardLetter(letter)
    ways = market.leads()[spot.stand]
    if letter not in ways:
        raise NotNext(letter)
    gained = moment_at(market, spot.stand).gains(spot.held)[letter]
    coins = spot.coins + gained - setting.claim.toll(letter)
    fresh = come_spot(market, setting.claim, coins, spot.word + letter, ways[letter], spot.shorts)
    if spot.followed is not None:
        fresh = following(setting, fresh, spot.followed)
    return fresh, number_text(coins)


def do_hold(setting, spot, rest):
    quotes, numbers = setting.market.board.quotes(spot.stand[1]), [number_in(text) for text in rest]
    if len(quotes) != len(numbers):
        raise InvalidHold(None)
    for position, quote in enumerate(quotes):
        if not can_hold(quote, numbers[position]):
            raise InvalidHold(position)
    fresh = spot.holding(numbers, None)
    return fresh, gains_text(setting, fresh)


def do_follow(setting, spot, rest):
    plan = setting.plan_of(rest[0])
    if plan is None:
        raise UnknownName(rest[0])
    fresh, entry = following(setting, spot, rest[0]), plan.entry_at(spot)
    if entry is None:
        return fresh, "none"
    return fresh, "short" if spot.coins.is_below(entry[0]) else "enough"


def do_leave(setting, spot, rest):
    return spot.holding(no_position(setting, spot), None), "done"


def do_stop(setting, spot, rest):
    place = int(rest[0])
    if place not in spot.stand[0]:
        raise UnknownPlace(place)
    coins = spot.coins - setting.claim.due(place)
    return spot.stopped(coins, no_position(setting, spot)), number_text(coins)


DEEDS = {"hear": do_hear, "hold": do_hold, "follow": do_follow, "leave": do_leave, "stop": do_stop}
