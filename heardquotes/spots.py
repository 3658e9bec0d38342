"""What a desk is about, and where it is."""

from heardquotes.claims import floor
from heardquotes.fairness import moment_at
from heardquotes.markets import first_stand
from heardquotes.scenes import as_entry


class Setting:
    """The market and the claim of a desk, and the plans that are kept, by their names; it never changes."""

    def __init__(self, market, claim, plans):
        self._market = market
        self._claim = claim
        self._plans = plans

    @property
    def market(self):
        return self._market

    @property
    def claim(self):
        return self._claim

    def plan_names(self):
        return sorted(self._plans)

    def plan_of(self, name):
        """The Plan of this name, None if there is none."""
        return self._plans.get(name)


class Plan:
    """A plan that is kept: a folded one, or one for a number of letters; many is None for a folded one."""

    def __init__(self, many, entries):
        self._many = many
        self._entries = {key: as_entry(entries[key]) for key in sorted(entries)}

    def told(self):
        """The plan as a new dict."""
        return {key: (coins, list(position)) for key, (coins, position) in self._entries.items()}

    def entry_at(self, spot):
        """What it tells where a desk is: a tuple (coins, position), only for reading; None if it has no such key."""
        key = spot.stand if self._many is None else (spot.stand, self._many - len(spot.word))
        return self._entries.get(key)


class Spot:
    """Where a desk is: its coins, what it heard, where it stands, what it holds and follows, where it was short.

    It never changes; what is done to a desk leads to another one.
    """

    def __init__(self, coins, word, stand, held, followed, shorts, is_stopped):
        self._coins = coins
        self._word = word
        self._stand = stand
        self._held = tuple(held)
        self._followed = followed
        self._shorts = tuple(shorts)
        self._is_stopped = is_stopped

    @property
    def coins(self):
        return self._coins

    @property
    def word(self):
        return self._word

    @property
    def stand(self):
        return self._stand

    @property
    def held(self):
        return list(self._held)

    @property
    def followed(self):
        """The name of the plan that is followed, None without one."""
        return self._followed

    @property
    def shorts(self):
        """How many letters had been heard, at each beginning of the word at which it was short."""
        return list(self._shorts)

    @property
    def is_stopped(self):
        return self._is_stopped

    def holding(self, position, followed):
        """Here with this position, following the plan of this name, or none."""
        return Spot(self._coins, self._word, self._stand, position, followed, self._shorts, False)

    def stopped(self, coins, position):
        """Here for ever with so many coins, the position being one of noughts."""
        return Spot(coins, self._word, self._stand, position, None, self._shorts, True)


def first_spot(market, claim, coins):
    return come_spot(market, claim, coins, "", first_stand(market), [])


def come_spot(market, claim, coins, word, stand, shorts):
    """Where a desk is that has come to the stand by the word with so many coins; it holds nothing yet."""
    fresh = [len(word)] if coins.is_below(floor(claim, stand[0])) else []
    return Spot(coins, word, stand, moment_at(market, stand).noughts(), None, shorts + fresh, False)

