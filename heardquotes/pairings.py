"""Two machines looked at together: the pairs of charts behind the words that both can hear."""

from heardquotes.basics import is_rising
from heardquotes.claims import floor
from heardquotes.hearing import Hearing
from heardquotes.outlooks import Outlook
from heardquotes.ways import explored, words_from

MOST_PAIRS = 200


class Pairing:
    """The one machine with its claim, the other with its own, and the letters that are heard of both.

    Ask it with tuples of a chart of the one and a chart of the other alone; the claims have no tolls.
    """

    def __init__(self, machine, claim, other, second, heard):
        mine, yours = Hearing(machine, heard), Hearing(other, heard)
        self._places = (machine.places, other.places)
        self._first = (mine.first(), yours.first())
        self._mine = mine.charts_from(mine.first())
        self._yours = yours.charts_from(yours.first())
        self._heights = Outlook(machine, heard, claim, mine.first()).greatest_floors()
        self._floors = {chart: floor(claim, chart) for chart in self._mine}
        self._second_floors = {chart: floor(second, chart) for chart in self._yours}

    def first(self):
        return self._first

    def is_pair(self, value):
        """Whether any value is a tuple of charts behind words, the one's and the other's."""
        if not isinstance(value, tuple) or len(value) != 2:
            return False
        if not is_rising(value[0], self._places[0]) or not is_rising(value[1], self._places[1]):
            return False
        return value[0] in self._mine and value[1] in self._yours

    def second_floor(self, pair):
        return self._second_floors[pair[1]]

    def greatest_floor(self, pair):
        """The greatest floor to come of the one's chart."""
        return self._heights[pair[0]]

    def is_capped(self, pair):
        return self.greatest_floor(pair).is_at_most(self.second_floor(pair))

    def has_less_due(self, pair):
        """Whether the one's floor is at most the other's."""
        return self._floors[pair[0]].is_at_most(self.second_floor(pair))

    def letters_alone(self, pair):
        """The sorted list of the letters that can be heard next at the one's chart, but not at the other's."""
        return [letter for letter in self._mine[pair[0]] if letter not in self._yours[pair[1]]]

    def is_kept(self, pair):
        """Whether floors and letters are as they are where the one needs at most what the other needs."""
        return self.has_less_due(pair) and (self.is_capped(pair) or not self.letters_alone(pair))

    def ways(self, pair):
        """The dict from the letters that both can hear next to the pairs then them."""
        mine, yours = self._mine[pair[0]], self._yours[pair[1]]
        return {letter: (mine[letter], yours[letter]) for letter in mine if letter in yours}

    def ways_on(self, pair):
        """The ways by which words that count lead on; there are none behind a capped pair."""
        return {} if self.is_capped(pair) else self.ways(pair)

    def pair_behind(self, word):
        """The pair behind a word that counts; None if it doesn't count."""
        pair = self._first
        for letter in word:
            pair = self.ways_on(pair).get(letter)
            if pair is None:
                return None
        return pair

    def counted(self):
        """The dict from the pairs behind words that count to the least of these words, the least one first."""
        leads = explored(self._first, lambda pair: self.ways_on(pair), MOST_PAIRS, "pairs")
        return words_from(leads, self._first)
