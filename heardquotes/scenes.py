"""A market and a claim together: what has to be there at each stand, and what leads from stand to stand."""

from heardquotes.claims import floor
from heardquotes.fairness import moment_at
from heardquotes.quotes import is_position
from heardquotes.ratios import as_ratio, as_ratios, is_number
from heardquotes.ways import said


class Scene:
    """The floors, tolls and moments of the stands; the claim has to fit the market."""

    def __init__(self, market, claim):
        self._board = market.board
        self._leads = market.leads()
        self._floors = {stand: floor(claim, stand[0]) for stand in self._leads}
        self._tolls = {letter: claim.toll(said(letter)) for leads in self._leads.values() for letter in leads}
        self._moments = {stand: moment_at(market, stand) for stand in self._leads}

    def leads(self, stand):
        """The dict from the next letters to the next stands, only for reading."""
        return self._leads[stand]

    def floors(self):
        return {stand: self._floors[stand] for stand in self._floors}

    def toll(self, letter):
        return self._tolls[letter]

    def moment(self, stand):
        return self._moments[stand]

    def coins_behind(self, stand, values):
        """What is wanted behind each next letter, its toll with it; stands without a value count as 0."""
        return {letter: self._tolls[letter] + values.get(then, 0) for letter, then in self._leads[stand].items()}

    def step(self, stand, values):
        """The tuple (need, weights, position) where these values are needed at the next stands.

        weights are fair ones of which the average is the need, None where it is the floor; the position leads
        from the need to the values.
        """
        coins = self.coins_behind(stand, values)
        moment, low = self._moments[stand], self._floors[stand]
        average, weights, position = moment.weigh(coins)
        if average is None:
            return low, None, moment.raised(low, coins, position)
        if average.is_at_most(low):
            return low, None, position
        return average, weights, position

    def is_told(self, stand, entry, many):
        """Whether any value is a tuple of coins that are at least the floor of the stand, and so many positions."""
        if not isinstance(entry, tuple) or len(entry) != many + 1:
            return False
        coins = entry[0]
        if not is_number(coins) or as_ratio(coins).is_below(self._floors[stand]):
            return False
        return all([is_position(self._board, stand[1], position) for position in entry[1:]])

    def does_lead(self, stand, coins, position, values):
        """Whether the position leads from the coins to the values of all next stands that have one, and the tolls."""
        gains = self._moments[stand].gains(position)
        ahead = [(letter, then) for letter, then in self._leads[stand].items() if then in values]
        return all([(self._tolls[letter] + values[then]).is_at_most(gains[letter] + coins) for letter, then in ahead])


def as_entry(entry):
    """A new tuple of the coins and the position, told by Ratios."""
    coins, position = entry
    return as_ratio(coins), as_ratios(position)
