"""Late news: the heard words of a length, what is known of them, and the program of their weights."""

from heardquotes.claims import floor
from heardquotes.fairness import traded, trades_of
from heardquotes.markets import first_stand
from heardquotes.quotes import gain_of
from heardquotes.ratios import Ratio, products
from heardquotes.simplex import solve
from heardquotes.ways import words_within

MOST_WORDS = 31


def known_part(word, late):
    return word[:max(0, len(word) - late)], len(word)


def key_of(word, late):
    """What is known when the position is taken that the last letter of the word settles."""
    return known_part(word[:-1], late)


def heard_words(market, many):
    """The dict from the words of at most so many letters that can be heard, the least one first, to their stands."""
    return words_within(market.leads(), first_stand(market), many, MOST_WORDS)


class News:
    """The heard words of at most so many letters, told so late, at a board of one state."""

    def __init__(self, market, many, late):
        words = heard_words(market, many)
        self._quotes = market.board.quotes(0)
        self._late = late
        self._stands = words
        self._keys = sorted(set([key_of(word, late) for word in words if word != ""]))
        self._rows = [self._gains(key, at, side) for key in self._keys for at, side in trades_of(self._quotes)]

    def stands(self):
        """The dict from the words to the stands behind them, only for reading."""
        return self._stands

    def keys_of_positions(self):
        """The sorted list of the keys at which positions are held."""
        return list(self._keys)

    def _gains(self, key, at, side):
        """What one trade gains at the key, for each word the letter being its own."""
        return [gain_of(self._quotes[at], side, self._letter_at(key, word)) for word in self._stands]

    def _letter_at(self, key, word):
        """The letter of the word that settles what is held at the key; none if the word doesn't pass there."""
        letter = word[key[1]:key[1] + 1]
        return letter if known_part(word[:key[1]], self._late) == key else ""

    def amounts(self, weights):
        """What leaves behind each word, as a list."""
        return [weights.get(word, Ratio(0)) for word in self._stands]

    def are_fair(self, weights):
        """Whether no trade gains at a key. The sum over passes is one over what leaves, by all beginnings."""
        return all([products(row, self.amounts(weights)).sign <= 0 for row in self._rows])

    def worths(self, claim):
        """For each word what it is worth that 1 leaves behind it: the floor there, and the tolls of the word."""
        return [floor(claim, stand[0]) + claim.tolls_of(word) for word, stand in self._stands.items()]

    def best(self, claim):
        """The tuple (need, weights, plan): the late need, weights that are worth it, and a plan from it."""
        words = list(self._stands)
        ones = [Ratio(1) for _ in words]
        rows = [(ones, Ratio(1)), ([-one for one in ones], Ratio(-1))] + [(row, Ratio(0)) for row in self._rows]
        aim = self.worths(claim)
        _, values, cap = solve(len(words), rows, aim)
        weights = dict(zip(words, values))
        return products(aim, values), {word: weights[word] for word in sorted(weights)}, self._plan(cap[2:])

    def _plan(self, numbers):
        many = len(trades_of(self._quotes))
        return {key: traded(self._quotes, numbers[at * many:at * many + many]) for at, key in enumerate(self._keys)}
