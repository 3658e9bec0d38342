"""Bells: letters on which nothing hangs, and the sets of them that are enough when they are heard."""

from heardquotes.basics import is_heard
from heardquotes.errors import InvalidBells, TooMany, UnheardLetter, UnknownPlace
from heardquotes.flows import flow_above
from heardquotes.folded import cover, folded_plan
from heardquotes.markets import Market
from heardquotes.ratios import check_number
from heardquotes.rings import does_owe, owing_ring
from heardquotes.verdicts import is_flow_worth_more, is_one_paper

MOST_BELLS = 4


def wanted(board, claim):
    """The sorted string of the letters that the board and the claim want heard."""
    return "".join(sorted(set(list(board.letters) + list(claim.tolls()))))


def unwanted(machine, board, claim):
    return "".join([letter for letter in machine.letters if letter not in wanted(board, claim)])


def is_set(machine, board, claim, value):
    """Whether any value is a set of bells."""
    return is_heard(value) and all([bell in unwanted(machine, board, claim) for bell in value])


def check_bells(machine, board, claim, bells):
    if not is_set(machine, board, claim, bells):
        raise InvalidBells(bells)


def check_wanted(machine, board, claim):
    for place in claim.dues():
        if place >= machine.places:
            raise UnknownPlace(place)
    for letter in wanted(board, claim):
        if letter not in machine.letters:
            raise UnheardLetter(letter)


def bells_of(machine, board, claim):
    check_wanted(machine, board, claim)
    return unwanted(machine, board, claim)


def market_with(machine, board, claim, bells):
    check_bells(machine, board, claim, bells)
    check_wanted(machine, board, claim)
    return made_market(machine, board, claim, bells)


def made_market(machine, board, claim, bells):
    return Market(machine, "".join(sorted(wanted(board, claim) + bells)), board)


def all_markets(machine, board, claim):
    """The dict from all sets of bells, sorted, to the markets with them."""
    bells = bells_of(machine, board, claim)
    if len(bells) > MOST_BELLS:
        raise TooMany("bells", MOST_BELLS)
    chosen = [""]
    for bell in bells:
        chosen = chosen + [others + bell for others in chosen]
    return {some: made_market(machine, board, claim, some) for some in sorted(chosen)}


def bell_covers(machine, board, claim):
    markets = all_markets(machine, board, claim)
    return {bells: cover(markets[bells], claim) for bells in markets}


def contains(bells, others):
    return all([bell in bells for bell in others])


def least_sets(sets):
    """Those of the sorted list that contain no other one of it."""
    return [bells for bells in sets if not any([contains(bells, some) and some != bells for some in sets])]


def greatest_sets(sets):
    """Those of the sorted list that lie within no other one of it."""
    return [bells for bells in sets if not any([contains(some, bells) and some != bells for some in sets])]


def is_enough(least, number):
    return least is not None and least.is_at_most(number)


def enough(machine, board, claim, number):
    check_number(number)
    covers = bell_covers(machine, board, claim)
    return least_sets([bells for bells in covers if is_enough(covers[bells], number)])


def lacking(machine, board, claim, number):
    check_number(number)
    covers = bell_covers(machine, board, claim)
    return greatest_sets([bells for bells in covers if not is_enough(covers[bells], number)])


def lack_paper(machine, board, claim, bells, number):
    check_bells(machine, board, claim, bells)
    check_number(number)
    check_wanted(machine, board, claim)
    return told_lack(made_market(machine, board, claim, bells), claim, number)


def told_lack(market, claim, number):
    ring = owing_ring(market, claim)
    return flow_above(market, claim, number) if ring is None else ring


def is_lack_paper(machine, board, claim, bells, number, value):
    check_bells(machine, board, claim, bells)
    check_number(number)
    check_wanted(machine, board, claim)
    return is_told_lack(made_market(machine, board, claim, bells), claim, number, value)


def is_told_lack(market, claim, number, value):
    return does_owe(market, claim, value) or is_flow_worth_more(market, claim, number, value)


def bell_paper(machine, board, claim, number):
    check_number(number)
    markets = all_markets(machine, board, claim)
    plans = {bells: folded_plan(markets[bells], claim) for bells in enough(machine, board, claim, number)}
    lacks = {bells: told_lack(markets[bells], claim, number) for bells in lacking(machine, board, claim, number)}
    return plans, lacks


def is_bell_paper(machine, board, claim, number, value):
    check_number(number)
    markets = all_markets(machine, board, claim)
    if not isinstance(value, tuple) or len(value) != 2:
        return False
    plans, lacks = value
    if not is_table(plans, markets) or not is_table(lacks, markets):
        return False
    if not all([is_one_paper(markets[bells], claim, number, plans[bells]) for bells in plans]):
        return False
    if not all([is_told_lack(markets[bells], claim, number, lacks[bells]) for bells in lacks]):
        return False
    return all([is_told(bells, list(plans), list(lacks)) for bells in markets])


def is_table(value, markets):
    """Whether any value is a dict from sets of bells."""
    return isinstance(value, dict) and all([is_heard(bells) and bells in markets for bells in value])


def is_told(bells, plans, lacks):
    """Whether the set contains a key of plans, or lies within a key of lacks."""
    return any([contains(bells, some) for some in plans]) or any([contains(some, bells) for some in lacks])
