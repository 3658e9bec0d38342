"""Claims together: what their sum needs, what each needs alone, and what is saved."""

from heardquotes.basics import is_list
from heardquotes.claims import Claim
from heardquotes.errors import InvalidClaims, TooMany
from heardquotes.folded import cover
from heardquotes.markets import check_claim
from heardquotes.ratios import Ratio

MOST_CLAIMS = 4


def check_claims(market, claims):
    if not is_list(claims) or len(claims) == 0:
        raise InvalidClaims(None)
    for position, claim in enumerate(claims):
        if not isinstance(claim, Claim):
            raise InvalidClaims(position)
    for claim in claims:
        check_claim(market, claim)
    if len(claims) > MOST_CLAIMS:
        raise TooMany("claims", MOST_CLAIMS)


def sum_of(claims):
    found = Claim({})
    for claim in claims:
        found = found + claim
    return found


def together(market, claims):
    check_claims(market, claims)
    return cover(market, sum_of(claims))


def own_covers(market, claims):
    check_claims(market, claims)
    return [cover(market, claim) for claim in claims]


def saved(market, claims):
    covers = own_covers(market, claims)
    if any([least is None for least in covers]):
        return None
    return Ratio.total(covers) - cover(market, sum_of(claims))
