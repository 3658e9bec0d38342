"""What a desk answers about the spot where it is, and changes nothing by it."""

from heardquotes.claims import floor
from heardquotes.commands import number_text
from heardquotes.fairness import moment_at
from heardquotes.lengths import need_from
from heardquotes.moments import live_letters
from heardquotes.prospects import Prospect
from heardquotes.texts import NOTHING

NEVER = "never"


def row_text(parts):
    return " ".join(parts) if parts else NOTHING


def gains_text(setting, spot):
    gains = moment_at(setting.market, spot.stand).gains(spot.held)
    return row_text([f"{letter} {number_text(gained)}" for letter, gained in gains.items()])


def cover_here(setting, spot):
    """The cover from the spot's stand; None if a ring that owes is come to."""
    prospect = Prospect(setting.market, setting.claim)
    return prospect.limit_at(spot.stand) if prospect.kind(spot.stand) == "sound" else None


def tell_word(setting, spot, rest):
    return row_text([spot.word] if spot.word != "" else [])


def tell_stand(setting, spot, rest):
    chart, state = spot.stand
    return row_text([str(place) for place in chart]) + f" at {state}"


def tell_coins(setting, spot, rest):
    return number_text(spot.coins)


def tell_floor(setting, spot, rest):
    return number_text(floor(setting.claim, spot.stand[0]))


def tell_short(setting, spot, rest):
    return row_text([str(letters) for letters in spot.shorts])


def tell_position(setting, spot, rest):
    return row_text([number_text(number) for number in spot.held])


def tell_follows(setting, spot, rest):
    return NOTHING if spot.followed is None else spot.followed


def tell_plans(setting, spot, rest):
    return row_text(setting.plan_names())


def tell_next(setting, spot, rest):
    return row_text(list(setting.market.leads()[spot.stand]))


def tell_live(setting, spot, rest):
    return row_text(list(live_letters(setting.market, spot.stand)))


def tell_gains(setting, spot, rest):
    return gains_text(setting, spot)


def tell_need(setting, spot, rest):
    return number_text(need_from(setting.market, setting.claim, spot.stand, int(rest[0])))


def tell_cover(setting, spot, rest):
    least = cover_here(setting, spot)
    return NEVER if least is None else number_text(least)


def tell_spare(setting, spot, rest):
    least = cover_here(setting, spot)
    return NEVER if least is None else number_text(spot.coins - least)


def tell_kind(setting, spot, rest):
    return Prospect(setting.market, setting.claim).kind(spot.stand)


QUESTIONS = {"word": tell_word, "stand": tell_stand, "coins": tell_coins, "floor": tell_floor, "short": tell_short,
             "position": tell_position, "follows": tell_follows, "plans": tell_plans, "next": tell_next,
             "live": tell_live, "gains": tell_gains, "need": tell_need, "cover": tell_cover, "spare": tell_spare,
             "kind": tell_kind}
