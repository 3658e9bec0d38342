"""Kinds of stands, the limits of what they need, and half plans that go with free bets on what is barred."""

from heardquotes.checks import check_length, check_many
from heardquotes.errors import InvalidPlan
from heardquotes.fairness import times_position
from heardquotes.folded import position_for
from heardquotes.markets import check_claim, check_stand, first_stand, is_stand
from heardquotes.prospects import Prospect, live_leads
from heardquotes.ratios import Ratio, as_ratio, as_ratios, greatest
from heardquotes.scenes import Scene
from heardquotes.spans import keys_from
from heardquotes.ways import words_from


def kind(market, claim, stand):
    check_stand(market, stand)
    check_claim(market, claim)
    return Prospect(market, claim).kind(stand)


def kinds(market, claim):
    check_claim(market, claim)
    prospect = Prospect(market, claim)
    return {stand: prospect.kind(stand) for stand in sorted(market.leads())}


def limit(market, claim):
    check_claim(market, claim)
    return Prospect(market, claim).limit_at(first_stand(market))


def limits(market, claim):
    check_claim(market, claim)
    return Prospect(market, claim).limits()


def half_plan(market, claim):
    """What is barred may be wanted as much as one likes: it gets no weight, so the stands' limits lead there, too."""
    least, first = limits(market, claim), first_stand(market)
    if first not in least:
        return None
    scene = Scene(market, claim)
    return {stand: (least[stand], position_for(scene, stand, least), scene.moment(stand).free_cover())
            for stand in sorted(words_from(live_leads(market), first))}


def is_half_plan(market, claim, value):
    check_claim(market, claim)
    if not isinstance(value, dict) or not all([is_stand(market, stand) for stand in value]):
        return False
    if first_stand(market) not in value:
        return False
    scene = Scene(market, claim)
    if not all([scene.is_told(stand, value[stand], 2) for stand in value]):
        return False
    coins = {stand: value[stand][0] for stand in value}
    if not all([scene.does_lead(stand, coins[stand], value[stand][1], coins) for stand in value]):
        return False
    return all([is_free(scene, stand, value[stand][2], coins) for stand in value])


def is_free(scene, stand, position, inside):
    """Whether the position never loses, and gains at each letter that leads out."""
    gains, leads = scene.moment(stand).gains(position), scene.leads(stand)
    return all([gains[letter].sign > 0 or gains[letter].sign == 0 and leads[letter] in inside for letter in gains])


def check_half_plan(market, claim, plan):
    if not is_half_plan(market, claim, plan):
        raise InvalidPlan(plan)


def half_at_length(market, claim, plan, many):
    check_many(many)
    check_claim(market, claim)
    check_half_plan(market, claim, plan)
    check_length(many)
    scene = Scene(market, claim)
    floors = scene.floors()
    told = {stand: as_ratio(plan[stand][0]) for stand in plan}
    table = [{stand: (told.get(stand, floors[stand]), scene.moment(stand).noughts()) for stand in floors}]
    for _ in range(many):
        ahead = {stand: table[-1][stand][0] for stand in floors}
        table.append({stand: carried(scene, plan, stand, ahead) for stand in floors})
    return {(stand, left): table[left][stand] for stand, left in keys_from(market, many)}


def carried(scene, plan, stand, ahead):
    """The coins and the position with which what is told one letter later is there.

    Within the half plan its own, with so many free positions that there is enough behind each letter that leads out.
    """
    if stand not in plan:
        least, _, position = scene.step(stand, ahead)
        return least, position
    coins, position, free = plan[stand]
    moment, wanted = scene.moment(stand), scene.coins_behind(stand, ahead)
    gains, more = moment.gains(position), moment.gains(free)
    lacking = [(wanted[letter] - gains[letter] - coins).over(more[letter])
               for letter, then in scene.leads(stand).items() if then not in plan]
    bets = times_position(free, greatest([Ratio(0)] + lacking))
    return as_ratio(coins), [number + bet for number, bet in zip(as_ratios(position), bets)]
