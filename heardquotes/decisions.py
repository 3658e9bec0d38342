"""Theses: of which parts they are made, and whether the first one of each line is true.

What decides may be asked with parts of the told kinds; it raises an error if they make no thesis.
"""

from heardquotes.bells import lack_paper
from heardquotes.boards import Board
from heardquotes.claims import Claim, is_spent
from heardquotes.errors import NotNext
from heardquotes.late import late_need
from heardquotes.lengths import need
from heardquotes.machines import Machine
from heardquotes.markets import Market, next_letters_of
from heardquotes.moments import fair_weights, reach, weights_with
from heardquotes.orders import apart
from heardquotes.programs import Program, highest, solution
from heardquotes.ratios import is_number
from heardquotes.rings import owing_ring
from heardquotes.verdicts import verdict

PAIRS = (("solved", "ruled out"), ("capped", "without end"), ("spent", "rising"), ("fair", "sure"), ("live", "blocked"),
         ("reached", "short"), ("enough", "lacking"), ("at once", "never at once"),
         ("each length", "some length fails"), ("owing", "not owing"), ("late enough", "late lacking"),
         ("needs at most", "apart"), ("bells enough", "bells lacking"))
# What is told as any is looked at by what decides.
PARTS = {"solved": ("program",), "capped": ("program", "any"), "spent": ("machine", "any", "claim", "any"),
         "fair": ("market", "any"), "live": ("market", "any", "any"), "reached": ("market", "any", "any", "number"),
         "enough": ("market", "claim", "number", "any"), "at once": ("market", "claim", "number"),
         "each length": ("market", "claim", "number"), "owing": ("market", "claim"),
         "late enough": ("market", "claim", "number", "any", "any"),
         "needs at most": ("machine", "claim", "machine", "claim", "any"),
         "bells enough": ("machine", "board", "claim", "any", "number")}


def is_of_kind(kind, value):
    if kind == "program":
        return isinstance(value, Program)
    if kind == "machine":
        return isinstance(value, Machine)
    if kind == "market":
        return isinstance(value, Market)
    if kind == "claim":
        return isinstance(value, Claim)
    if kind == "board":
        return isinstance(value, Board)
    return kind == "any" or is_number(value)


def are_parts(word, parts):
    """Whether the tuple has parts of the kinds that the line of this first word tells."""
    kinds = PARTS[word]
    return len(parts) == len(kinds) and all([is_of_kind(kind, part) for kind, part in zip(kinds, parts)])


def decide_solved(program):
    return solution(program) is not None


def decide_capped(program, aim):
    return highest(program, aim) is not None


def decide_spent(machine, heard, claim, chart):
    return is_spent(machine, heard, claim, chart)


def decide_fair(market, stand):
    return fair_weights(market, stand) is not None


def decide_live(market, stand, letter):
    weights = weights_with(market, stand, letter)
    if letter not in next_letters_of(market, stand):
        raise NotNext(letter)
    return weights is not None


def decide_reached(market, stand, coins, number):
    least = reach(market, stand, coins)
    return least is None or least.is_at_most(number)


def decide_enough(market, claim, number, many):
    return need(market, claim, many).is_at_most(number)


def decide_at_once(market, claim, number):
    return verdict(market, claim, number) == "one"


def decide_each_length(market, claim, number):
    return verdict(market, claim, number) != "fails"


def decide_owing(market, claim):
    return owing_ring(market, claim) is not None


def decide_late_enough(market, claim, number, many, late):
    return late_need(market, claim, many, late).is_at_most(number)


def decide_needs_at_most(machine, claim, other, second, heard):
    return apart(machine, claim, other, second, heard) is None


def decide_bells_enough(machine, board, claim, bells, number):
    return lack_paper(machine, board, claim, bells, number) is None


DECISIONS = {"solved": decide_solved, "capped": decide_capped, "spent": decide_spent, "fair": decide_fair,
             "live": decide_live, "reached": decide_reached, "enough": decide_enough, "at once": decide_at_once,
             "each length": decide_each_length, "owing": decide_owing, "late enough": decide_late_enough,
             "needs at most": decide_needs_at_most, "bells enough": decide_bells_enough}
