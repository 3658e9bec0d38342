"""Folded plans: coins and a position for each stand, which cover at every length; and the least such coins."""

from heardquotes.checks import check_length, check_many
from heardquotes.errors import InvalidPlan
from heardquotes.markets import check_claim, first_stand, is_stand
from heardquotes.policies import settled
from heardquotes.ratios import Ratio
from heardquotes.scenes import Scene, as_entry
from heardquotes.spans import keys_from


def cover(market, claim):
    least = covers(market, claim)
    return None if least is None else least[first_stand(market)]


def covers(market, claim):
    check_claim(market, claim)
    values, _, ring = settled(Scene(market, claim), list(market.leads()))
    return None if ring is not None else {stand: values[stand] for stand in sorted(values)}


def folded_plan(market, claim):
    least = covers(market, claim)
    if least is None:
        return None
    scene = Scene(market, claim)
    return {stand: (least[stand], position_for(scene, stand, least)) for stand in least}


def position_for(scene, stand, values):
    """A position that leads from the stand's own value to those of the next stands."""
    return scene.moment(stand).leading(values[stand], scene.coins_behind(stand, values))


def is_folded_plan(market, claim, value):
    check_claim(market, claim)
    return is_plan(market, claim, value)


def is_plan(market, claim, value):
    """Whether any value is a folded plan; the claim has to fit."""
    if not isinstance(value, dict) or not all([is_stand(market, stand) for stand in value]):
        return False
    if len(value) != len(market.leads()):
        return False
    scene = Scene(market, claim)
    if not all([scene.is_told(stand, value[stand], 1) for stand in value]):
        return False
    coins = {stand: value[stand][0] for stand in value}
    return all([scene.does_lead(stand, value[stand][0], value[stand][1], coins) for stand in value])


def check_plan(market, claim, plan):
    if not is_plan(market, claim, plan):
        raise InvalidPlan(plan)


def plan_at_length(market, claim, plan, many):
    check_many(many)
    check_claim(market, claim)
    check_plan(market, claim, plan)
    check_length(many)
    return {(stand, left): entry_with(plan[stand], left) for stand, left in keys_from(market, many)}


def entry_with(entry, left):
    """The coins and the position; noughts if no letters are left."""
    coins, position = as_entry(entry)
    return coins, position if left > 0 else [Ratio(0) for _ in position]
