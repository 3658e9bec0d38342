"""Folded flows: fair weights wherever they pass, which show that less coins do not cover."""

from heardquotes.checks import check_length, check_many
from heardquotes.errors import InvalidFlow
from heardquotes.folded import is_plan
from heardquotes.markets import check_claim, first_stand, is_stand
from heardquotes.policies import flow_by_policy, settled
from heardquotes.ratios import Ratio, as_ratio, check_number
from heardquotes.scenes import Scene
from heardquotes.spans import poured
from heardquotes.streams import is_kept, is_stream, outgoing, parts, stream_worth


def greatest_flow(market, claim):
    check_claim(market, claim)
    scene = Scene(market, claim)
    _, policy, ring = settled(scene, list(market.leads()))
    return None if ring is not None else flow_by_policy(scene, policy, first_stand(market))


def flow_above(market, claim, number):
    check_number(number)
    flow = greatest_flow(market, claim)
    if flow is None or total_worth(claim, flow).is_at_most(number):
        return None
    return flow


def is_flow(market, value):
    if not isinstance(value, dict) or not all([is_stand(market, stand) for stand in value]):
        return False
    if not all([is_stream(market, stand, value[stand]) for stand in value]):
        return False
    return is_kept(value, first_stand(market), market.leads())


def check_flow(market, flow):
    if not is_flow(market, flow):
        raise InvalidFlow(flow)


def flow_worth(market, claim, flow):
    check_claim(market, claim)
    check_flow(market, flow)
    return total_worth(claim, flow)


def total_worth(claim, flow):
    return Ratio.total([stream_worth(claim, stand, flow[stand]) for stand in flow])


def is_tight(market, claim, plan, flow):
    check_claim(market, claim)
    if not is_plan(market, claim, plan) or not is_flow(market, flow):
        return False
    return as_ratio(plan[first_stand(market)][0]) == total_worth(claim, flow)


def flow_at_length(market, flow, many):
    check_flow(market, flow)
    check_many(many)
    check_length(many)
    return unfolded(market, flow, many)


def unfolded(market, flow, many):
    shares = {stand: parts(flow[stand]) for stand in flow}
    ends = {stand: (Ratio(1), {}) for stand in flow}
    return poured(market, many, [ends] + [shares for _ in range(many)])


def on_the_way(market, flow, many):
    check_flow(market, flow)
    check_many(many)
    check_length(many)
    come = {stand: stream[0] for (stand, left), stream in unfolded(market, flow, many).items() if left == 0}
    return Ratio.total([come[stand] * outgoing(parts(flow[stand])[1]) for stand in come])
