"""Prices of bells, and plans and flows that are carried to where a bell more, or a bell less, is heard."""

from heardquotes.basics import is_letter
from heardquotes.bells import bell_covers, unwanted
from heardquotes.claims import added
from heardquotes.errors import InvalidBell, InvalidPlan, InvalidPrices
from heardquotes.folded import is_plan
from heardquotes.lengths import check_flow
from heardquotes.markets import check_claim, first_stand
from heardquotes.played import check_plan
from heardquotes.ratios import Ratio, as_ratio, is_at_least_zero
from heardquotes.scenes import as_entry
from heardquotes.spans import keys_from, longest_of
from heardquotes.streams import parts


def are_prices(bells, value):
    """Whether any value is a dict from just these bells to numbers that are at least 0."""
    if not isinstance(value, dict) or not all([is_letter(bell) for bell in value]):
        return False
    return "".join(sorted(value)) == bells and all([is_at_least_zero(price) for price in value.values()])


def costs(machine, board, claim, prices):
    if not are_prices(unwanted(machine, board, claim), prices):
        raise InvalidPrices(prices)
    covers = bell_covers(machine, board, claim)
    return {bells: cost_of(covers[bells], bells, prices) for bells in covers}


def cost_of(least, bells, prices):
    return None if least is None else Ratio.total([prices[bell] for bell in bells]) + least


def cheapest(machine, board, claim, prices):
    told = costs(machine, board, claim, prices)
    found = None
    for _, bells in sorted([(len(some), some) for some in told]):
        if told[bells] is not None and (found is None or told[bells].is_below(found[0])):
            found = (told[bells], bells)
    return found


def check_unheard(market, bell):
    """A letter of the machine that is not heard is always a bell: what the board and the claim want is heard."""
    if not is_letter(bell) or bell not in market.machine.letters or bell in market.heard:
        raise InvalidBell(bell)


def check_heard_bell(market, claim, bell):
    if not is_letter(bell) or bell not in market.heard or bell in market.board.letters or bell in claim.tolls():
        raise InvalidBell(bell)


def market_hearing(market, bell):
    return market.with_heard("".join(sorted(market.heard + bell)))


def is_wider(stand, other):
    """Whether the stand has the same state as the other one, and all places of its chart."""
    return stand[1] == other[1] and all([place in stand[0] for place in other[0]])


def cheapest_entry(plan, keys):
    """What the plan tells, by Ratios, at the key with the least coins; of several the first one of the sorted list."""
    best = keys[0]
    for key in keys:
        if as_ratio(plan[key][0]).is_below(plan[best][0]):
            best = key
    return as_entry(plan[best])


def with_bell(market, claim, plan, bell):
    check_claim(market, claim)
    check_plan(market, claim, plan)
    check_unheard(market, bell)
    keys = keys_from(market_hearing(market, bell), longest_of(plan))
    return {key: carried_entry(plan, key) for key in keys}


def carried_entry(plan, key):
    stand, left = key
    coins, position = cheapest_entry(plan, [old for old in sorted(plan) if old[1] >= left and is_wider(old[0], stand)])
    return coins, position if left > 0 else [Ratio(0) for _ in position]


def folded_with_bell(market, claim, plan, bell):
    check_claim(market, claim)
    if not is_plan(market, claim, plan):
        raise InvalidPlan(plan)
    check_unheard(market, bell)
    stands = sorted(market_hearing(market, bell).leads())
    return {stand: cheapest_entry(plan, [old for old in sorted(plan) if is_wider(old, stand)]) for stand in stands}


def without_bell(market, claim, flow, bell):
    check_claim(market, claim)
    check_flow(market, flow)
    check_heard_bell(market, claim, bell)
    return put_together(split_streams(market, market.with_heard(market.heard.replace(bell, "")), flow, bell))


def split_streams(market, fewer, flow, bell):
    """The flow, told apart by where it is in the market without the bell: tuples of the key there, what leaves, and
    what goes by each letter but the bell."""
    many = longest_of(flow)
    coming = {(first_stand(market), (first_stand(fewer), many)): Ratio(1)}
    found = []
    for left in range(many, -1, -1):
        fresh = {}
        for (stand, key), amount in coming.items():
            leaves, weights = parts(flow[(stand, left)])
            gone = {letter: weights[letter] * amount for letter in weights}
            found.append((key, leaves * amount, {letter: gone[letter] for letter in gone if letter != bell}))
            for letter in gone:
                pair = (market.leads()[stand][letter], key if letter == bell else key_then(fewer, key, letter))
                fresh[pair] = fresh.get(pair, Ratio(0)) + gone[letter]
        coming = fresh
    return found


def key_then(market, key, letter):
    stand, left = key
    return market.leads()[stand][letter], left - 1


def put_together(streams):
    """The flow of all these streams, those of one key added up."""
    ends = {}
    gone = {}
    for key, leaves, weights in streams:
        ends[key] = ends.get(key, Ratio(0)) + leaves
        gone[key] = added(gone.get(key, {}), weights)
    return {key: (ends[key], gone[key]) for key in sorted(ends)}

