"""Papers of theses: for each word what makes one, if the thesis is true; the parts have to be right already."""

from heardquotes.bells import lack_paper, market_with
from heardquotes.claims import ceilings, rise, toll_round
from heardquotes.fairness import moment_at
from heardquotes.flows import flow_above
from heardquotes.folded import folded_plan
from heardquotes.kinds import half_plan
from heardquotes.late import late_plan, late_weights
from heardquotes.lengths import lack, length_plan
from heardquotes.markets import first_stand
from heardquotes.moments import as_coins, fair_weights, free_cover, sure_gain, weights_with
from heardquotes.orders import apart, at_most_pairs
from heardquotes.programs import bar, best, ray, solution
from heardquotes.ratios import as_ratio
from heardquotes.rings import owing_ring, trail
from heardquotes.verdicts import fails_paper, one_paper


def prove_solved(program):
    return solution(program)


def prove_ruled_out(program):
    return bar(program)


def prove_capped(program, aim):
    return best(program, aim)


def prove_without_end(program, aim):
    return ray(program, aim)


def prove_spent(machine, heard, claim, chart):
    return ceilings(machine, heard, claim, chart)


def prove_rising(machine, heard, claim, chart):
    told = toll_round(machine, heard, claim, chart)
    return rise(machine, heard, claim, chart) if told is None else told


def prove_fair(market, stand):
    return fair_weights(market, stand)


def prove_sure(market, stand):
    return sure_gain(market, stand)


def prove_live(market, stand, letter):
    return weights_with(market, stand, letter)


def prove_blocked(market, stand, letter):
    return free_cover(market, stand)


def prove_reached(market, stand, coins, number):
    return moment_at(market, stand).leading(as_ratio(number), as_coins(coins))


def prove_short(market, stand, coins, number):
    return moment_at(market, stand).weigh(as_coins(coins))[1]


def prove_enough(market, claim, number, many):
    return length_plan(market, claim, many)


def prove_lacking(market, claim, number, many):
    return lack(market, claim, number, many)


def prove_at_once(market, claim, number):
    return one_paper(market, claim, number)


def prove_never_at_once(market, claim, number):
    told = trail(market, claim, first_stand(market))
    return flow_above(market, claim, number) if told is None else told


def prove_each_length(market, claim, number):
    return half_plan(market, claim)


def prove_some_length_fails(market, claim, number):
    return fails_paper(market, claim, number)


def prove_owing(market, claim):
    return owing_ring(market, claim)


def prove_not_owing(market, claim):
    return folded_plan(market, claim)


def prove_late_enough(market, claim, number, many, late):
    return late_plan(market, claim, number, many, late)


def prove_late_lacking(market, claim, number, many, late):
    return late_weights(market, claim, many, late)


def prove_needs_at_most(machine, claim, other, second, heard):
    return at_most_pairs(machine, claim, other, second, heard)


def prove_apart(machine, claim, other, second, heard):
    return apart(machine, claim, other, second, heard)


def prove_bells_enough(machine, board, claim, bells, number):
    return folded_plan(market_with(machine, board, claim, bells), claim)


def prove_bells_lacking(machine, board, claim, bells, number):
    return lack_paper(machine, board, claim, bells, number)


PROOFS = {"solved": prove_solved, "ruled out": prove_ruled_out, "capped": prove_capped,
          "without end": prove_without_end, "spent": prove_spent, "rising": prove_rising, "fair": prove_fair,
          "sure": prove_sure, "live": prove_live, "blocked": prove_blocked, "reached": prove_reached,
          "short": prove_short, "enough": prove_enough, "lacking": prove_lacking, "at once": prove_at_once,
          "never at once": prove_never_at_once, "each length": prove_each_length,
          "some length fails": prove_some_length_fails, "owing": prove_owing, "not owing": prove_not_owing,
          "late enough": prove_late_enough, "late lacking": prove_late_lacking,
          "needs at most": prove_needs_at_most, "apart": prove_apart, "bells enough": prove_bells_enough,
          "bells lacking": prove_bells_lacking}
