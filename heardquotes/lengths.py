"""Each length: what is needed for so many letters, plans from just this, and flows that are worth it."""

from heardquotes.checks import check_length, check_many
from heardquotes.errors import InvalidFlow
from heardquotes.markets import check_claim, check_stand, first_stand
from heardquotes.ratios import Ratio, as_ratio, check_number
from heardquotes.spans import is_flow_of_length, is_plan_of_length, keys_from, longest_of, need_steps, parts_by, poured
from heardquotes.streams import stream_worth


def check_question(market, claim, many):
    check_many(many)
    check_claim(market, claim)
    check_length(many)


def need(market, claim, many):
    return needs(market, claim, many)[-1]


def need_from(market, claim, stand, many):
    check_stand(market, stand)
    check_question(market, claim, many)
    return need_steps(market, claim, many)[many][stand][0]


def needs(market, claim, many):
    check_question(market, claim, many)
    first = first_stand(market)
    return [steps[first][0] for steps in need_steps(market, claim, many)]


def length_plan(market, claim, many):
    check_question(market, claim, many)
    table = need_steps(market, claim, many)
    return {(stand, left): (table[left][stand][0], table[left][stand][2]) for stand, left in keys_from(market, many)}


def is_length_plan(market, claim, number, many, value):
    check_number(number)
    check_question(market, claim, many)
    if not is_plan_of_length(market, claim, many, value):
        return False
    return as_ratio(value[(first_stand(market), many)][0]).is_at_most(number)


def length_flow(market, claim, many):
    check_question(market, claim, many)
    return flow_by(market, need_steps(market, claim, many))


def flow_by(market, table):
    """The length flow of the steps to a need: it leaves where the floor is the need."""
    shares = [{stand: parts_by(steps[stand][1]) for stand in steps} for steps in table]
    return poured(market, len(table) - 1, shares)


def is_length_flow(market, many, value):
    check_many(many)
    check_length(many)
    return is_flow_of_length(market, many, value)


def check_flow(market, flow):
    longest = longest_of(flow)
    if longest is None or not is_flow_of_length(market, longest, flow):
        raise InvalidFlow(flow)


def worth(market, claim, flow):
    check_claim(market, claim)
    check_flow(market, flow)
    return total_worth(claim, flow)


def total_worth(claim, flow):
    return Ratio.total([stream_worth(claim, key[0], flow[key]) for key in flow])


def lack(market, claim, number, many):
    check_number(number)
    check_question(market, claim, many)
    table = need_steps(market, claim, many)
    if table[many][first_stand(market)][0].is_at_most(number):
        return None
    return flow_by(market, table)


def is_lack(market, claim, number, many, value):
    check_number(number)
    check_question(market, claim, many)
    return is_flow_of_length(market, many, value) and not total_worth(claim, value).is_at_most(number)


def first_lack(market, claim, number, most):
    check_number(number)
    above = [many for many, least in enumerate(needs(market, claim, most)) if not least.is_at_most(number)]
    return above[0] if above else None
