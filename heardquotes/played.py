"""Plans and flows for a length along words: played, told word by word, and held against one another."""

from heardquotes.basics import is_word
from heardquotes.checks import check_length, check_many
from heardquotes.errors import InvalidFlow, InvalidPlan, InvalidWord, TooMany
from heardquotes.fairness import moment_at
from heardquotes.lengths import check_flow
from heardquotes.markets import check_claim, first_stand
from heardquotes.quotes import is_position
from heardquotes.ratios import Ratio, as_ratio, as_ratios, check_number
from heardquotes.scenes import Scene
from heardquotes.spans import is_plan_of_own_length, longest_of
from heardquotes.streams import parts
from heardquotes.ways import led_by

MOST_WORDS = 500


def check_plan(market, claim, plan):
    if not is_plan_of_own_length(market, claim, plan):
        raise InvalidPlan(plan)


def played(market, claim, plan, word):
    check_claim(market, claim)
    check_plan(market, claim, plan)
    many = longest_of(plan)
    if not is_word(word) or len(word) > many:
        raise InvalidWord(word)
    passed = led_by(market.leads(), first_stand(market), word)
    if passed is None:
        raise InvalidWord(word)
    found = [as_ratio(plan[(passed[0], many)][0])]
    for at, letter in enumerate(word):
        position = plan[(passed[at], many - at)][1]
        found.append(found[-1] + moment_at(market, passed[at]).gains(position)[letter] - claim.toll(letter))
    return found


def word_plan(market, claim, plan):
    check_claim(market, claim)
    check_plan(market, claim, plan)
    leads = market.leads()
    level = [("", first_stand(market))]
    found = {}
    for left in range(longest_of(plan), 0, -1):
        for word, stand in level:
            found[word] = as_ratios(plan[(stand, left)][1])
        if len(found) > MOST_WORDS:
            raise TooMany("words", MOST_WORDS)
        level = [(word + letter, then) for word, stand in level for letter, then in leads[stand].items()]
    return {word: found[word] for word in sorted(found)}


def is_word_plan(market, claim, number, many, value):
    check_number(number)
    check_many(many)
    check_claim(market, claim)
    check_length(many)
    if not isinstance(value, dict) or not all([is_word(word) for word in value]):
        return False
    scene = Scene(market, claim)
    floors, leads = scene.floors(), market.leads()
    level = [("", first_stand(market), as_ratio(number))]
    seen = 0
    for _ in range(many):
        if not all([is_covered(market, floors, value, *entry) for entry in level]):
            return False
        seen = seen + len(level)
        level = [(word + letter, then, coins) for word, stand, amount in level
                 for letter, then, coins in coins_then(scene, leads[stand], stand, amount, value[word])]
    return seen == len(value) and not any([coins.is_below(floors[stand]) for word, stand, coins in level])


def is_covered(market, floors, plan, word, stand, coins):
    """Whether the coins behind the word are enough, and the plan tells a position there."""
    if coins.is_below(floors[stand]) or word not in plan:
        return False
    return is_position(market.board, stand[1], plan[word])


def coins_then(scene, leads, stand, coins, position):
    """The tuples of each next letter, the stand behind it, and the coins there with this position."""
    gains = scene.moment(stand).gains(position)
    return [(letter, then, coins + gains[letter] - scene.toll(letter)) for letter, then in leads.items()]


def word_weights(market, flow):
    check_flow(market, flow)
    leads = market.leads()
    level = [("", first_stand(market), Ratio(1))]
    found = {}
    words = 0
    for left in range(longest_of(flow), -1, -1):
        words = words + len(level)
        if words > MOST_WORDS:
            raise TooMany("words", MOST_WORDS)
        told = {stand: parts(flow[(stand, left)]) for word, stand, amount in level}
        for word, stand, amount in level:
            if told[stand][0].sign > 0:
                found[word] = amount * told[stand][0]
        level = [(word + letter, leads[stand][letter], amount * weight) for word, stand, amount in level
                 for letter, weight in told[stand][1].items()]
    return {word: found[word] for word in sorted(found)}


def left_over(market, claim, plan, flow):
    check_claim(market, claim)
    check_plan(market, claim, plan)
    check_flow(market, flow)
    if longest_of(plan) != longest_of(flow):
        raise InvalidFlow(flow)
    scene = Scene(market, claim)
    floors = scene.floors()
    over = [left_at(scene, floors, plan, flow, key) for key in flow]
    return tuple([Ratio.total([sums[at] for sums in over]) for at in range(3)])


def left_at(scene, floors, plan, flow, key):
    """What one key of the flow leaves at ends, at letters and at quotes."""
    stand, left = key
    coins, position = plan[key]
    leaves, weights = flow[key]
    gains = scene.moment(stand).gains(position)
    rest = [(gains[letter] + coins - scene.toll(letter) - plan[(then, left - 1)][0]) * weights[letter]
            for letter, then in scene.leads(stand).items() if letter in weights]
    gained = Ratio.total([gains[letter] * weights[letter] for letter in weights])
    return (as_ratio(coins) - floors[stand]) * leaves, Ratio.total(rest), -gained
