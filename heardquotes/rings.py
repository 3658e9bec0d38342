"""Rings: fair weights that go round for ever; those that owe, and the words that lead to them."""

from heardquotes.basics import is_word
from heardquotes.errors import InvalidRing
from heardquotes.markets import check_claim, check_stand, is_stand
from heardquotes.policies import settled
from heardquotes.prospects import Prospect, live_leads
from heardquotes.ratios import Ratio
from heardquotes.scenes import Scene
from heardquotes.streams import are_weights, incoming, is_closed, outgoing, taken
from heardquotes.ways import led_by, words_from


def is_ring(market, value):
    if not isinstance(value, dict) or len(value) == 0 or not all([is_stand(market, stand) for stand in value]):
        return False
    if not all([are_weights(market, stand, value[stand]) and value[stand] for stand in value]):
        return False
    leads = market.leads()
    if not is_closed(value, leads):
        return False
    coming, ways = incoming(value, leads), taken(value, leads)
    if not all([coming.get(stand) == outgoing(value[stand]) for stand in value]):
        return False
    return all([len(words_from(ways, stand)) == len(value) for stand in value])


def check_ring(market, ring):
    if not is_ring(market, ring):
        raise InvalidRing(ring)


def ring_sum(market, claim, ring):
    check_ring(market, ring)
    check_claim(market, claim)
    return total_tolls(claim, ring)


def total_tolls(claim, ring):
    return Ratio.total([claim.toll(letter) * weight for weights in ring.values() for letter, weight in weights.items()])


def does_owe(market, claim, value):
    check_claim(market, claim)
    return is_ring(market, value) and total_tolls(claim, value).sign > 0


def owing_ring(market, claim):
    check_claim(market, claim)
    _, _, ring = settled(Scene(market, claim), list(market.leads()))
    return ring


def heard_from(market, stand):
    check_stand(market, stand)
    return sorted(words_from(market.leads(), stand))


def live_from(market, stand):
    check_stand(market, stand)
    return sorted(words_from(live_leads(market), stand))


def trail(market, claim, stand):
    check_stand(market, stand)
    check_claim(market, claim)
    return Prospect(market, claim).trail(stand)


def lead(market, claim, stand):
    check_stand(market, stand)
    check_claim(market, claim)
    return Prospect(market, claim).lead(stand)


def is_way(market, claim, value, leads, stand):
    """Whether any value is a tuple of a word that leads by these ways from the stand into a ring, and of the ring,
    which owes."""
    if not isinstance(value, tuple) or len(value) != 2 or not is_word(value[0]):
        return False
    word, ring = value
    if not does_owe(market, claim, ring):
        return False
    passed = led_by(leads, stand, word)
    return passed is not None and passed[-1] in ring


def is_trail(market, claim, stand, value):
    check_stand(market, stand)
    check_claim(market, claim)
    return is_way(market, claim, value, market.leads(), stand)


def is_lead(market, claim, stand, value):
    check_stand(market, stand)
    check_claim(market, claim)
    return is_way(market, claim, value, live_leads(market), stand)
