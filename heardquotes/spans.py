"""What is told by tuples (stand, left): so many letters may still come."""

from heardquotes.basics import is_count
from heardquotes.checks import MOST_LENGTH
from heardquotes.fairness import positive
from heardquotes.markets import first_stand, is_stand
from heardquotes.ratios import Ratio, as_ratio
from heardquotes.scenes import Scene
from heardquotes.streams import is_kept, is_stream


def keys_from(market, many):
    """The sorted list of the tuples to which words lead."""
    leads = market.leads()
    level = [first_stand(market)]
    found = [(stand, many) for stand in level]
    for left in range(many - 1, -1, -1):
        level = sorted(set([then for stand in level for then in leads[stand].values()]))
        found.extend([(stand, left) for stand in level])
    return sorted(found)


def longest_of(value):
    """The greatest number of letters left in the keys of any value; None if it has not just keys with such numbers,
    or if it is above 12."""
    if not isinstance(value, dict) or len(value) == 0:
        return None
    if not all([isinstance(key, tuple) and len(key) == 2 and is_count(key[1]) for key in value]):
        return None
    longest = max([key[1] for key in value])
    return longest if longest <= MOST_LENGTH else None


def is_key(market, value):
    return isinstance(value, tuple) and len(value) == 2 and is_stand(market, value[0]) and is_count(value[1])


def need_steps(market, claim, many):
    """For 0 to many letters the dicts from the stands to tuples (need, weights, position), as a Scene's step."""
    scene = Scene(market, claim)
    floors = scene.floors()
    table = [{stand: (floors[stand], None, scene.moment(stand).noughts()) for stand in floors}]
    for _ in range(many):
        ahead = {stand: table[-1][stand][0] for stand in floors}
        table.append({stand: scene.step(stand, ahead) for stand in floors})
    return table


def is_plan_of_length(market, claim, many, value):
    """Whether any value is a length plan for its own coins at the first stand with so many letters left."""
    if not isinstance(value, dict) or not all([is_key(market, key) for key in value]):
        return False
    if sorted(value) != keys_from(market, many):
        return False
    scene = Scene(market, claim)
    if not all([scene.is_told(key[0], value[key], 1) for key in value]):
        return False
    return all([is_enough(scene, value, key) for key in value])


def is_plan_of_own_length(market, claim, value):
    """Whether any value is a length plan for its own coins and as many letters as are left at most in its keys."""
    longest = longest_of(value)
    return longest is not None and is_plan_of_length(market, claim, longest, value)


def is_enough(scene, plan, key):
    """Whether what the plan holds at the key leads to what it tells one letter later."""
    stand, left = key
    coins, position = plan[key]
    if left == 0:
        return all([as_ratio(number).sign == 0 for number in position])
    ahead = {then: plan[(then, left - 1)][0] for then in scene.leads(stand).values()}
    return scene.does_lead(stand, coins, position, ahead)


def is_flow_of_length(market, many, value):
    """Whether any value is a length flow of the market for so many letters."""
    if not isinstance(value, dict) or not all([is_key(market, key) for key in value]):
        return False
    if not all([is_stream(market, key[0], value[key]) for key in value]):
        return False
    if not all([len(value[key][1]) == 0 for key in value if key[1] == 0]):
        return False
    return is_kept(value, (first_stand(market), many), length_leads(market, list(value)))


def length_leads(market, keys):
    """The ways by letters from these keys, one letter less left behind each."""
    leads = market.leads()
    return {(stand, left): {letter: (then, left - 1) for letter, then in leads[stand].items()} for stand, left in keys}


def poured(market, many, shares):
    """The length flow that goes by these parts: for each number of letters left a dict from stands to parts."""
    leads = market.leads()
    coming = {first_stand(market): Ratio(1)}
    flow = {}
    for left in range(many, -1, -1):
        fresh = {}
        for stand, amount in coming.items():
            leaves, weights = shares[left][stand]
            flow[(stand, left)] = (amount * leaves, {letter: amount * weights[letter] for letter in weights})
            for letter in weights:
                then = leads[stand][letter]
                fresh[then] = fresh.get(then, Ratio(0)) + amount * weights[letter]
        coming = fresh
    return {key: flow[key] for key in sorted(flow)}


def parts_by(weights):
    """The parts of what leaves, where no weights are told, or goes on by all letters that have weight."""
    if weights is None:
        return Ratio(1), {}
    return Ratio(0), positive(weights)
