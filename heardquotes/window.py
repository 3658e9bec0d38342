"""The window: what is needed, and with which papers, if the place behind each heard letter's step is told."""

from heardquotes.checks import check_length, check_many
from heardquotes.flows import flow_worth, greatest_flow, is_flow
from heardquotes.folded import cover, folded_plan, is_folded_plan
from heardquotes.markets import check_claim, check_stand, first_stand
from heardquotes.spans import need_steps
from heardquotes.tellings import Telling


def told_stands(market):
    return sorted(Telling(market).leads())


def told_then(market, stand):
    telling = Telling(market)
    check_stand(telling, stand)
    ways = telling.leads()[stand]
    letters = sorted(set([letter for letter, place in ways]))
    return {letter: {place: then for (said, place), then in ways.items() if said == letter} for letter in letters}


def window_need(market, claim, many):
    check_many(many)
    check_claim(market, claim)
    check_length(many)
    return need_steps(Telling(market), claim, many)[many][first_stand(market)][0]


def window_cover(market, claim):
    return cover(Telling(market), claim)


def window_plan(market, claim):
    return folded_plan(Telling(market), claim)


def is_window_plan(market, claim, value):
    return is_folded_plan(Telling(market), claim, value)


def window_flow(market, claim):
    return greatest_flow(Telling(market), claim)


def is_window_flow(market, claim, value):
    check_claim(market, claim)
    return is_flow(Telling(market), value)


def window_worth(market, claim, flow):
    return flow_worth(Telling(market), claim, flow)
