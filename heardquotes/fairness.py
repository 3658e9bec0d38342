"""One moment: the letters that can be heard next, and what the quotes gain at them."""

from heardquotes.quotes import can_hold, gain_of
from heardquotes.ratios import Ratio, as_ratio, greatest, products
from heardquotes.simplex import solve
from heardquotes.ways import said


class Moment:
    """The next letters of a stand and the quotes of its state; what it is asked with has to be right already.

    Each trade has a row of its gains. With the window its letters are ways, which gain what their letters gain.
    """

    def __init__(self, letters, quotes):
        self._letters = list(letters)
        self._quotes = list(quotes)
        self._trades = trades_of(quotes)
        self._rows = [[gain_of(quotes[at], side, said(letter)) for letter in letters] for at, side in self._trades]

    def noughts(self):
        """The position of noughts alone."""
        return [Ratio(0) for _ in self._quotes]

    def gains(self, position):
        """The dict from the next letters to what the position gains at them."""
        pairs = list(zip(self._quotes, position))
        return {letter: Ratio.total([gain_of(quote, number, said(letter)) for quote, number in pairs])
                for letter in self._letters}

    def are_fair(self, weights):
        """Whether no trade gains by the weights, a dict from some of the next letters to numbers."""
        numbers = [as_ratio(weights.get(letter, 0)) for letter in self._letters]
        return all([products(row, numbers).sign <= 0 for row in self._rows])

    def weigh(self, coins):
        """The tuple (average, weights, position) for coins, a dict from the next letters to Ratios.

        The greatest average by fair weights, such weights, and a position that leads from it to the coins; if no
        weights are fair None, None and a position that gains more than 0 at each next letter.
        """
        if not self._letters:
            return None, None, self.noughts()
        ones = [Ratio(1) for _ in self._letters]
        rows = [(ones, Ratio(1)), ([-one for one in ones], Ratio(-1))] + [(row, Ratio(0)) for row in self._rows]
        aim = [coins[letter] for letter in self._letters]
        kind, values, cap = solve(len(aim), rows, aim)
        if kind == "bar":
            return None, None, traded(self._quotes, values[2:])
        return products(aim, values), dict(zip(self._letters, values)), traded(self._quotes, cap[2:])

    def leading(self, number, coins):
        """A position that leads from the number to the coins; it has to be at least their reach, if there is one."""
        average, _, position = self.weigh(coins)
        return self.raised(number, coins, position) if average is None else position

    def raised(self, number, coins, position):
        """So many times the position, which gains at each next letter, that it leads from the number to the coins."""
        gains = self.gains(position)
        wanted = [(coins[letter] - number).over(gains[letter]) for letter in self._letters]
        return times_position(position, greatest([Ratio(0)] + wanted))

    def weights_with(self, letter):
        """Fair weights that give this next letter as much as can be; None if no weights are fair."""
        return self.weigh(self._only(letter))[1]

    def _only(self, letter):
        return {other: Ratio(1 if other == letter else 0) for other in self._letters}

    def live(self):
        """The list of the live letters."""
        found = {}
        for letter in self._letters:
            weights = {} if letter in found else self.weights_with(letter)
            if weights is None:
                return []
            for other, weight in weights.items():
                if weight.sign > 0:
                    found[other] = True
        return sorted(found)

    def free_cover(self):
        """A position that gains at least 0 at each next letter, and more than 0 at each barred one.

        By an average of 0 of 1 at a barred letter alone a position leads from 0 to this.
        """
        live = self.live()
        if not live:
            return self.weigh(self._only(""))[2]
        covers = [self.weigh(self._only(letter))[2] for letter in self._letters if letter not in live]
        return [Ratio.total([cover[at] for cover in covers]) for at in range(len(self._quotes))]


def trades_of(quotes):
    """The trades, one piece bought, or one sold, of a quote that lets it be: tuples of its number, and 1 or -1."""
    return [(at, side) for at, quote in enumerate(quotes) for side in (1, -1) if can_hold(quote, side)]


def traded(quotes, numbers):
    """The position of so many pieces of each trade; what is bought and sold of one quote is not traded."""
    pieces = [(at, number * side) for (at, side), number in zip(trades_of(quotes), numbers)]
    return [Ratio.total([number for at, number in pieces if at == quote]) for quote in range(len(quotes))]


def moment_at(market, stand):
    return Moment(list(market.leads()[stand]), market.board.quotes(stand[1]))


def times_position(position, times):
    return [as_ratio(number) * times for number in position]


def positive(weights):
    """The weights without those that are 0."""
    return {letter: weights[letter] for letter in weights if weights[letter].sign > 0}
