"""Solves as many lines as there are unknowns, by whole numbers above one common scale."""

from heardquotes.ratios import Ratio
from heardquotes.simplex import whole


def solved_lines(lines):
    """The list of the unknowns; a line is a list of Ratios, their weights, and behind them what they come to.

    The lines tell, for each unknown, what it is more than parts of the others, and these parts get lost in the end:
    so no pivot is ever 0, and no lines have to change places.
    """
    table = [whole(line)[1] for line in lines]
    scale = 1
    for at in range(len(table)):
        chosen = table[at]
        pivot = chosen[at]
        table = [row if k == at else without(row, chosen, at, scale) for k, row in enumerate(table)]
        scale = pivot
    return [Ratio(row[-1], scale) for row in table]


def without(row, chosen, at, scale):
    """The row without the unknown of this number, which the chosen row tells."""
    pivot, factor = chosen[at], row[at]
    return [(mine * pivot - factor * own) // scale for mine, own in zip(row, chosen)]
