"""Flows of both kinds, by stands alone or by stands and letters left: what leaves, and what goes on by letters."""

from heardquotes.claims import floor
from heardquotes.fairness import moment_at
from heardquotes.ratios import Ratio, as_ratio, is_at_least_zero, is_number
from heardquotes.ways import all_from, is_way, said


def are_weights(market, stand, value):
    """Whether any value is a dict, perhaps empty, from next letters to numbers above 0, fair at the stand."""
    if not isinstance(value, dict):
        return False
    leads = market.leads()[stand]
    if not all([is_way(letter) and letter in leads for letter in value]):
        return False
    if not all([is_number(number) and as_ratio(number).sign > 0 for number in value.values()]):
        return False
    return moment_at(market, stand).are_fair(value)


def is_stream(market, stand, value):
    """Whether any value is a tuple (leaves, weights) that may be at the stand."""
    if not isinstance(value, tuple) or len(value) != 2:
        return False
    return is_at_least_zero(value[0]) and are_weights(market, stand, value[1])


def is_closed(weights, leads):
    """Whether all letters with weights lead to keys of this dict from keys to weights."""
    return all([leads[key][letter] in weights for key in weights for letter in weights[key]])


def taken(weights, leads):
    """The ways by letters with weights alone, letters sorted."""
    return {key: {letter: leads[key][letter] for letter in sorted(weights[key])} for key in weights}


def incoming(weights, leads):
    """The dict from keys to what comes in there by the letters of all keys; a key without any is not in it."""
    found = {}
    for key in weights:
        for letter, weight in weights[key].items():
            then = leads[key][letter]
            found[then] = found.get(then, Ratio(0)) + weight
    return found


def outgoing(weights):
    """What goes out by all letters of one key."""
    return Ratio.total(list(weights.values()))


def through(stream):
    """All that goes through a key: what leaves and what goes on."""
    leaves, weights = stream
    return outgoing(weights) + leaves


def is_kept(flow, first, leads):
    """Whether a dict from keys to streams has just the first one and what it leads to, and keeps what comes in."""
    weights = {key: flow[key][1] for key in flow}
    if first not in flow or not is_closed(weights, leads):
        return False
    if len(all_from(taken(weights, leads), first)) != len(flow):
        return False
    led = incoming(weights, leads)
    coming = {**led, first: led.get(first, Ratio(0)) + 1}
    return all([through(flow[key]) == coming[key] for key in flow])


def stream_worth(claim, stand, stream):
    """What leaves by the floor, and what goes on by the tolls."""
    leaves, weights = stream
    paid = [claim.toll(said(letter)) * weight for letter, weight in weights.items()]
    return floor(claim, stand[0]) * leaves + Ratio.total(paid)


def parts(stream):
    """The stream told for each 1 that comes in."""
    amount = through(stream)
    leaves, weights = stream
    told = {letter: as_ratio(weights[letter]).over(amount) for letter in sorted(weights)}
    return as_ratio(leaves).over(amount), told
