"""Of a claim that comes more and more: how much of it there can be before a ring owes."""

from heardquotes.errors import NoRoom
from heardquotes.folded import folded_plan, is_plan
from heardquotes.markets import check_claim
from heardquotes.ratios import is_at_least_zero
from heardquotes.rings import is_ring, owing_ring, total_tolls


def check_question(market, claim, more):
    check_claim(market, claim)
    check_claim(market, more)


def most_and_ring(market, claim, more):
    """The tuple of the most and of a ring that owes from there on; None if it is without end.

    Each ring that owes tells how much of more leaves it just even, which is less each time: for it owes by more
    alone, as no ring owes by the claim itself.
    """
    check_question(market, claim, more)
    if owing_ring(market, claim) is not None:
        raise NoRoom()
    ring = owing_ring(market, more)
    told = None
    while ring is not None:
        number = -total_tolls(claim, ring).over(total_tolls(more, ring))
        told = (number, ring)
        ring = owing_ring(market, claim + more * number)
    return told


def most_more(market, claim, more):
    told = most_and_ring(market, claim, more)
    return None if told is None else told[0]


def most_paper(market, claim, more):
    told = most_and_ring(market, claim, more)
    if told is None:
        return None
    number, ring = told
    return number, ring, folded_plan(market, claim + more * number)


def is_most_paper(market, claim, more, value):
    check_question(market, claim, more)
    if not isinstance(value, tuple) or len(value) != 3:
        return False
    number, ring, plan = value
    if not is_at_least_zero(number) or not is_ring(market, ring):
        return False
    together = claim + more * number
    if total_tolls(together, ring).sign != 0 or total_tolls(more, ring).sign <= 0:
        return False
    return is_plan(market, together, plan)
