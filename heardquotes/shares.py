"""Shares: by one flow that is worth the cover of a sum of claims, what each of them pays of it."""

from heardquotes.basics import is_place_below
from heardquotes.claims import floor
from heardquotes.errors import InvalidPaper
from heardquotes.flows import greatest_flow, is_flow, total_worth
from heardquotes.folded import cover
from heardquotes.markets import is_stand
from heardquotes.ratios import Ratio, as_ratio
from heardquotes.together import check_claims, sum_of


def shares_paper(market, claims):
    check_claims(market, claims)
    whole = sum_of(claims)
    flow = greatest_flow(market, whole)
    if flow is None:
        return None
    return flow, {stand: greatest_place(whole, stand[0]) for stand in ends_of(flow)}


def ends_of(flow):
    """The sorted list of the stands at which something leaves."""
    return [stand for stand in sorted(flow) if as_ratio(flow[stand][0]).sign > 0]


def greatest_place(claim, chart):
    """The first place of the chart at which the greatest amount is due."""
    return [place for place in chart if claim.due(place) == floor(claim, chart)][0]


def is_shares_paper(market, claims, value):
    check_claims(market, claims)
    return is_paper(market, sum_of(claims), value)


def is_paper(market, whole, value):
    if not isinstance(value, tuple) or len(value) != 2:
        return False
    flow, places = value
    if not is_flow(market, flow) or not are_places(market, whole, flow, places):
        return False
    return cover(market, whole) == total_worth(whole, flow)


def are_places(market, whole, flow, value):
    """Whether any value tells a place where most is due for each stand of the flow at which something leaves."""
    if not isinstance(value, dict) or not all([is_stand(market, stand) for stand in value]):
        return False
    if sorted(value) != ends_of(flow):
        return False
    return all([is_greatest(market, whole, stand[0], value[stand]) for stand in value])


def is_greatest(market, whole, chart, place):
    if not is_place_below(place, market.machine.places) or place not in chart:
        return False
    return whole.due(place) == floor(whole, chart)


def check_paper(market, claims, paper):
    check_claims(market, claims)
    if not is_paper(market, sum_of(claims), paper):
        raise InvalidPaper(paper)


def share_of(claim, paper):
    flow, places = paper
    ends = [claim.due(places[stand]) * flow[stand][0] for stand in places]
    passed = [claim.toll(letter) * weight for leaves, weights in flow.values() for letter, weight in weights.items()]
    return Ratio.total(ends + passed)


def shares(market, claims, paper):
    check_paper(market, claims, paper)
    return [share_of(claim, paper) for claim in claims]


def groups(market, claims, paper):
    paid = shares(market, claims, paper)
    return [(group, Ratio.total([paid[at] for at in group]), cover(market, sum_of([claims[at] for at in group])))
            for group in rising_tuples(len(claims))]


def rising_tuples(many):
    """The sorted list of the tuples of rising positions below this number, at least one in each."""
    found = [()]
    for at in range(many):
        found = found + [some + (at,) for some in found]
    return sorted([some for some in found if some])
