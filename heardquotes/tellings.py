"""Markets with the window: with each heard letter the place behind its own step is told."""

from heardquotes.hearing import Hearing
from heardquotes.markets import first_stand
from heardquotes.ways import explored


class Telling:
    """A market of which the stands are the told ones that are come to, and the ways tuples (letter, place)."""

    def __init__(self, market):
        self._market = market
        self._leads = told_leads(market)

    @property
    def machine(self):
        return self._market.machine

    @property
    def heard(self):
        return self._market.heard

    @property
    def board(self):
        return self._market.board

    def leads(self):
        """From the told stands, the first one ahead, to the dicts from ways to told stands; only for reading."""
        return self._leads


def told_leads(market):
    hearing = Hearing(market.machine, market.heard)
    return explored(first_stand(market), lambda stand: told_leads_of(hearing, market, stand))


def told_leads_of(hearing, market, stand):
    chart, state = stand
    return {(letter, place): (hearing.joined([place]), market.board.then(state, letter))
            for letter in market.heard for place in hearing.stops(chart, letter)}
