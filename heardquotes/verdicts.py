"""Three verdicts of a number of coins, one plan, each length, or fails, with a paper for each."""

from heardquotes.flows import is_flow, total_worth
from heardquotes.folded import folded_plan, is_plan
from heardquotes.kinds import half_plan, is_half_plan
from heardquotes.markets import check_claim, first_stand
from heardquotes.prospects import Prospect
from heardquotes.ratios import as_ratio, check_number
from heardquotes.rings import is_lead, is_trail

ONE = "one"
EACH = "each"
FAILS = "fails"


def check_question(market, claim, number):
    check_number(number)
    check_claim(market, claim)


def verdict(market, claim, number):
    check_question(market, claim, number)
    return told_verdict(market, Prospect(market, claim), number)


def told_verdict(market, prospect, number):
    first = first_stand(market)
    least = prospect.limit_at(first)
    if least is None or not least.is_at_most(number):
        return FAILS
    return ONE if prospect.kind(first) == "sound" else EACH


def one_paper(market, claim, number):
    return folded_plan(market, claim) if verdict(market, claim, number) == ONE else None


def each_paper(market, claim, number):
    check_question(market, claim, number)
    prospect = Prospect(market, claim)
    if told_verdict(market, prospect, number) != EACH:
        return None
    return half_plan(market, claim), prospect.trail(first_stand(market))


def fails_paper(market, claim, number):
    check_question(market, claim, number)
    prospect, first = Prospect(market, claim), first_stand(market)
    if told_verdict(market, prospect, number) != FAILS:
        return None
    return prospect.flow(first) if prospect.lead(first) is None else prospect.lead(first)


def has_at_most(market, plan, number):
    """Whether a folded plan or a half plan has at most so many coins at the first stand."""
    return as_ratio(plan[first_stand(market)][0]).is_at_most(number)


def is_one_paper(market, claim, number, value):
    check_question(market, claim, number)
    return is_plan(market, claim, value) and has_at_most(market, value, number)


def is_each_paper(market, claim, number, value):
    check_question(market, claim, number)
    if not isinstance(value, tuple) or len(value) != 2 or not is_half_plan(market, claim, value[0]):
        return False
    return has_at_most(market, value[0], number) and is_trail(market, claim, first_stand(market), value[1])


def is_fails_paper(market, claim, number, value):
    check_question(market, claim, number)
    if is_lead(market, claim, first_stand(market), value):
        return True
    return is_flow_worth_more(market, claim, number, value)


def is_flow_worth_more(market, claim, number, value):
    """Whether any value is a folded flow that is worth more than the number; the claim has to fit."""
    return is_flow(market, value) and not total_worth(claim, value).is_at_most(number)
