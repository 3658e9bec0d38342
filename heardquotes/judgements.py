"""Judges of papers of theses: for each word whether any value is one; the parts have to be right already.

Where a judge raises an error the value is no paper.
"""

from heardquotes.basics import is_word
from heardquotes.bells import is_lack_paper, market_with
from heardquotes.claims import floor, is_ceilings, is_toll_round
from heardquotes.fairness import moment_at
from heardquotes.folded import is_folded_plan
from heardquotes.hearing import Hearing
from heardquotes.kinds import is_half_plan
from heardquotes.late import is_late_plan, late_worth
from heardquotes.lengths import is_lack, is_length_plan
from heardquotes.markets import first_stand
from heardquotes.moments import does_reach, is_fair, is_sure
from heardquotes.orders import is_apart, is_at_most_paper
from heardquotes.programs import is_bar, is_best_paper, is_ray, is_solution
from heardquotes.quotes import is_position
from heardquotes.ratios import Ratio, as_ratio
from heardquotes.rings import does_owe, is_trail
from heardquotes.verdicts import has_at_most, is_fails_paper, is_flow_worth_more, is_one_paper


def judge_solved(program, value):
    return is_solution(program, value)


def judge_ruled_out(program, value):
    return is_bar(program, value)


def judge_capped(program, aim, value):
    return is_best_paper(program, aim, value)


def judge_without_end(program, aim, value):
    return is_ray(program, aim, value)


def judge_spent(machine, heard, claim, chart, value):
    return is_ceilings(machine, heard, claim, chart, value) and as_ratio(value[chart]) == floor(claim, chart)


def judge_rising(machine, heard, claim, chart, value):
    if not is_word(value):
        return is_toll_round(machine, heard, claim, chart, value)
    then = Hearing(machine, heard).led(chart, value)
    return then is not None and floor(claim, chart).is_below(floor(claim, then) + claim.tolls_of(value))


def judge_fair(market, stand, value):
    return is_fair(market, stand, value)


def judge_sure(market, stand, value):
    return is_sure(market, stand, value)


def judge_live(market, stand, letter, value):
    return is_fair(market, stand, value) and as_ratio(value[letter]).sign > 0


def judge_blocked(market, stand, letter, value):
    if not is_position(market.board, stand[1], value):
        return False
    gains = moment_at(market, stand).gains(value)
    return gains[letter].sign > 0 and all([gained.sign >= 0 for gained in gains.values()])


def judge_reached(market, stand, coins, number, value):
    return does_reach(market, stand, number, coins, value)


def judge_short(market, stand, coins, number, value):
    if not is_fair(market, stand, value):
        return False
    average = Ratio.total([as_ratio(coins[letter]) * value[letter] for letter in coins])
    return not average.is_at_most(number)


def judge_enough(market, claim, number, many, value):
    return is_length_plan(market, claim, number, many, value)


def judge_lacking(market, claim, number, many, value):
    return is_lack(market, claim, number, many, value)


def judge_at_once(market, claim, number, value):
    return is_one_paper(market, claim, number, value)


def judge_never_at_once(market, claim, number, value):
    return is_trail(market, claim, first_stand(market), value) or is_flow_worth_more(market, claim, number, value)


def judge_each_length(market, claim, number, value):
    return is_half_plan(market, claim, value) and has_at_most(market, value, number)


def judge_some_length_fails(market, claim, number, value):
    return is_fails_paper(market, claim, number, value)


def judge_owing(market, claim, value):
    return does_owe(market, claim, value)


def judge_not_owing(market, claim, value):
    return is_folded_plan(market, claim, value)


def judge_late_enough(market, claim, number, many, late, value):
    return is_late_plan(market, claim, number, many, late, value)


def judge_late_lacking(market, claim, number, many, late, value):
    return not late_worth(market, claim, many, late, value).is_at_most(number)


def judge_needs_at_most(machine, claim, other, second, heard, value):
    return is_at_most_paper(machine, claim, other, second, heard, value)


def judge_apart(machine, claim, other, second, heard, value):
    return is_apart(machine, claim, other, second, heard, value)


def judge_bells_enough(machine, board, claim, bells, number, value):
    return is_one_paper(market_with(machine, board, claim, bells), claim, number, value)


def judge_bells_lacking(machine, board, claim, bells, number, value):
    return is_lack_paper(machine, board, claim, bells, number, value)


JUDGES = {"solved": judge_solved, "ruled out": judge_ruled_out, "capped": judge_capped,
          "without end": judge_without_end, "spent": judge_spent, "rising": judge_rising, "fair": judge_fair,
          "sure": judge_sure, "live": judge_live, "blocked": judge_blocked, "reached": judge_reached,
          "short": judge_short, "enough": judge_enough, "lacking": judge_lacking, "at once": judge_at_once,
          "never at once": judge_never_at_once, "each length": judge_each_length,
          "some length fails": judge_some_length_fails, "owing": judge_owing, "not owing": judge_not_owing,
          "late enough": judge_late_enough, "late lacking": judge_late_lacking,
          "needs at most": judge_needs_at_most, "apart": judge_apart, "bells enough": judge_bells_enough,
          "bells lacking": judge_bells_lacking}
