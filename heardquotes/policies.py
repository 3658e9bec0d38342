"""Policies: for each stand fair weights above 0 by which one goes on, or none where one leaves.

They are improved until nothing is gained (Howard). A stand takes other weights only where it gains by them at once.
So each stand goes on leading to where one leaves; or there comes a ring that is never left, and it owes: one of its
stands at least has other weights than before, for before it was left, and gains by them, while none loses.
"""

from heardquotes.fairness import positive
from heardquotes.linear import solved_lines
from heardquotes.ratios import Ratio
from heardquotes.ways import all_from


def settled(scene, stands):
    """The tuple (values, policy, ring) of these stands: what they are worth in the end, and by which policy.

    Live letters lead from these stands to one another alone. If a ring owes the third part is one, and the other
    two have no meaning; otherwise it is None.
    """
    floors = scene.floors()
    values = {stand: floors[stand] for stand in stands}
    policy = {stand: {} for stand in stands}
    better = improved(scene, values)
    while better:
        policy = {stand: better.get(stand, policy[stand]) for stand in policy}
        ring = lost_ring(scene, policy)
        if ring is not None:
            return values, policy, ring
        values = valued(scene, policy)
        better = improved(scene, values)
    return values, policy, None


def improved(scene, values):
    """The dict from the stands that are worth less than an average of what they lead to, to the weights of this."""
    found = {}
    for stand in values:
        average, weights, _ = scene.moment(stand).weigh(scene.coins_behind(stand, values))
        if average is not None and values[stand].is_below(average):
            found[stand] = positive(weights)
    return found


def policy_ways(scene, policy):
    return {stand: {letter: scene.leads(stand)[letter] for letter in policy[stand]} for stand in policy}


def share(policy, ways, one, other):
    """How much of 1 goes on from the one stand to the other one."""
    return Ratio.total([policy[one][letter] for letter in policy[one] if ways[one][letter] == other])


def valued(scene, policy):
    """What the stands are worth by the policy; each leads to one where one leaves."""
    floors = scene.floors()
    going = [stand for stand in policy if policy[stand]]
    values = dict(zip(going, solved_lines([value_line(scene, policy, going, stand) for stand in going])))
    return {stand: values.get(stand, floors[stand]) for stand in policy}


def value_line(scene, policy, going, stand):
    ways, floors = policy_ways(scene, policy), scene.floors()
    ends = {then: floors[then] for then in policy if not policy[then]}
    paid = [(scene.toll(letter) + ends.get(then, 0)) * policy[stand][letter] for letter, then in ways[stand].items()]
    own = [Ratio(1 if other == stand else 0) - share(policy, ways, stand, other) for other in going]
    return own + [Ratio.total(paid)]


def lost_ring(scene, policy):
    """A ring, with weights, that is never left by the policy; None if each stand leads to one where one leaves."""
    ways = policy_ways(scene, policy)
    reached = {stand: sorted(all_from(ways, stand)) for stand in policy}
    lost = [stand for stand in policy if all([policy[then] for then in reached[stand]])]
    if not lost:
        return None
    # Where the fewest stands are led to, each of them leads back.
    around = min([reached[stand] for stand in lost], key=len)
    first, *others = around
    amounts = passing(policy, ways, {stand: share(policy, ways, first, stand) for stand in others})
    amounts = {first: Ratio(1), **amounts}
    return {stand: times_weights(policy[stand], amounts[stand]) for stand in sorted(amounts)}


def passing(policy, ways, source):
    """What comes to each of these stands, all together, if so much comes to it from elsewhere."""
    around = sorted(source)
    lines = [[Ratio(1 if other == stand else 0) - share(policy, ways, other, stand) for other in around]
             + [source[stand]] for stand in around]
    return dict(zip(around, solved_lines(lines)))


def times_weights(weights, amount):
    return {letter: weights[letter] * amount for letter in sorted(weights)}


def flow_by_policy(scene, policy, first):
    """The folded flow from the first stand, with what leaves and goes on by the policy."""
    ways = policy_ways(scene, policy)
    source = {stand: Ratio(1 if stand == first else 0) for stand in all_from(ways, first)}
    amounts = passing(policy, ways, source)
    return {stand: (Ratio(0) if policy[stand] else amounts[stand], times_weights(policy[stand], amounts[stand]))
            for stand in amounts}
