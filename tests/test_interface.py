"""The names, parameters and files of the interface, as the document lists them."""

import importlib
import inspect
import unittest

import helper  # noqa: F401  (it lets the package be imported)

FUNCTIONS = {
    "basics": ["is_integer(value)", "is_count(value)", "is_letter(value)", "is_word(value)", "is_heard(value)"],
    "ratios": ["is_number(value)"],
    "programs": ["solution(program)", "bar(program)", "is_solution(program, value)", "is_bar(program, value)",
                 "outcome(program, aim)", "highest(program, aim)", "lowest(program, aim)", "best(program, aim)",
                 "ray(program, aim)", "is_best_paper(program, aim, value)", "is_ray(program, aim, value)",
                 "needless(program)", "lean(program)", "are_alike(one, other)", "parting(one, other)"],
    "machines": [],
    "runs": ["is_run(machine, value)", "stop_of(machine, run)", "heard_of(machine, heard, run)", "runs(machine, many)",
             "run_for(machine, heard, word, place)"],
    "charts": ["is_chart(machine, heard, value)", "first_chart(machine, heard)",
               "chart_then(machine, heard, chart, letter)", "chart_behind(machine, heard, word)",
               "next_letters(machine, heard, chart)", "all_charts(machine, heard)", "words(machine, heard, many)",
               "least_word(machine, heard, chart)"],
    "claims": ["floor(claim, chart)", "greatest_floor(machine, heard, claim, chart)",
               "ceilings(machine, heard, claim, chart)", "is_ceilings(machine, heard, claim, chart, value)",
               "is_spent(machine, heard, claim, chart)", "rise(machine, heard, claim, chart)",
               "toll_round(machine, heard, claim, chart)", "is_toll_round(machine, heard, claim, chart, value)"],
    "quotes": ["is_quote(value)", "is_position(board, state, value)", "gain(board, state, position, letter)"],
    "boards": [],
    "markets": ["first_stand(market)", "next_letters_of(market, stand)", "next_stands(market, stand)",
                "stands(market)", "stand_behind(market, word)", "word_to(market, stand)"],
    "moments": ["fair_weights(market, stand)", "is_fair(market, stand, value)", "sure_gain(market, stand)",
                "is_sure(market, stand, value)", "live_letters(market, stand)", "weights_with(market, stand, letter)",
                "free_cover(market, stand)", "is_free_cover(market, stand, value)", "reach(market, stand, coins)",
                "reaching(market, stand, coins)", "does_reach(market, stand, number, coins, value)",
                "worths(market, stand, coins)"],
    "lengths": ["need(market, claim, many)", "need_from(market, claim, stand, many)", "needs(market, claim, many)",
                "length_plan(market, claim, many)", "is_length_plan(market, claim, number, many, value)",
                "length_flow(market, claim, many)", "is_length_flow(market, many, value)",
                "worth(market, claim, flow)", "lack(market, claim, number, many)",
                "is_lack(market, claim, number, many, value)", "first_lack(market, claim, number, most)"],
    "played": ["played(market, claim, plan, word)", "word_plan(market, claim, plan)",
               "is_word_plan(market, claim, number, many, value)", "word_weights(market, flow)",
               "left_over(market, claim, plan, flow)"],
    "folded": ["cover(market, claim)", "covers(market, claim)", "folded_plan(market, claim)",
               "is_folded_plan(market, claim, value)", "plan_at_length(market, claim, plan, many)"],
    "flows": ["greatest_flow(market, claim)", "flow_above(market, claim, number)", "is_flow(market, value)",
              "flow_worth(market, claim, flow)", "is_tight(market, claim, plan, flow)",
              "flow_at_length(market, flow, many)", "on_the_way(market, flow, many)"],
    "rings": ["is_ring(market, value)", "ring_sum(market, claim, ring)", "does_owe(market, claim, value)",
              "owing_ring(market, claim)", "heard_from(market, stand)", "live_from(market, stand)",
              "trail(market, claim, stand)", "lead(market, claim, stand)", "is_trail(market, claim, stand, value)",
              "is_lead(market, claim, stand, value)"],
    "kinds": ["kind(market, claim, stand)", "kinds(market, claim)", "limit(market, claim)", "limits(market, claim)",
              "half_plan(market, claim)", "is_half_plan(market, claim, value)",
              "half_at_length(market, claim, plan, many)"],
    "verdicts": ["verdict(market, claim, number)", "one_paper(market, claim, number)",
                 "each_paper(market, claim, number)", "fails_paper(market, claim, number)",
                 "is_one_paper(market, claim, number, value)", "is_each_paper(market, claim, number, value)",
                 "is_fails_paper(market, claim, number, value)"],
    "more": ["most_more(market, claim, more)", "most_paper(market, claim, more)",
             "is_most_paper(market, claim, more, value)"],
    "bells": ["bells_of(machine, board, claim)", "market_with(machine, board, claim, bells)",
              "bell_covers(machine, board, claim)", "enough(machine, board, claim, number)",
              "lacking(machine, board, claim, number)", "lack_paper(machine, board, claim, bells, number)",
              "is_lack_paper(machine, board, claim, bells, number, value)",
              "bell_paper(machine, board, claim, number)", "is_bell_paper(machine, board, claim, number, value)"],
    "prices": ["costs(machine, board, claim, prices)", "cheapest(machine, board, claim, prices)",
               "with_bell(market, claim, plan, bell)", "folded_with_bell(market, claim, plan, bell)",
               "without_bell(market, claim, flow, bell)"],
    "window": ["told_stands(market)", "told_then(market, stand)", "window_need(market, claim, many)",
               "window_cover(market, claim)", "window_plan(market, claim)", "is_window_plan(market, claim, value)",
               "window_flow(market, claim)", "is_window_flow(market, claim, value)",
               "window_worth(market, claim, flow)"],
    "late": ["known(word, late)", "late_need(market, claim, many, late)",
             "late_plan(market, claim, number, many, late)", "is_late_plan(market, claim, number, many, late, value)",
             "late_weights(market, claim, many, late)", "is_late_weights(market, many, late, value)",
             "late_worth(market, claim, many, late, value)",
             "late_played(market, claim, number, many, late, plan, word)", "first_late(market, claim, number, many)"],
    "together": ["together(market, claims)", "own_covers(market, claims)", "saved(market, claims)"],
    "shares": ["shares_paper(market, claims)", "is_shares_paper(market, claims, value)",
               "shares(market, claims, paper)", "groups(market, claims, paper)"],
    "orders": ["begun_at(machine, chart)", "at_most_pairs(machine, claim, other, second, heard)",
               "is_at_most_paper(machine, claim, other, second, heard, value)",
               "apart(machine, claim, other, second, heard)", "is_apart(machine, claim, other, second, heard, value)",
               "are_alike(machine, claim, other, second, heard)", "claim_above(machine, claim, second, heard)"],
    "texts": ["written(thing)"],
    "readers": ["read(text)"],
    "theses": ["words()", "is_thesis(value)", "is_true(thesis)", "contrary(thesis)", "paper_of(thesis)",
               "is_paper(thesis, value)"],
    "commands": ["is_command(value)", "is_deed(value)", "number_text(number)"],
    "desk": ["tried(desk, action)"],
}
CLASSES = {
    "ratios.Ratio": (["__init__(self, top, bottom=1)", "over(self, other)", "size(self)", "is_below(self, other)",
                      "is_at_most(self, other)"],
                     "top bottom sign is_whole", "add radd sub rsub mul rmul neg eq str repr"),
    "programs.Program": (["__init__(self, unknowns, rows=())", "rows(self)", "without(self, position)",
                          "with_bound(self, position, number)", "sums(self, values)"],
                         "unknowns", "len getitem add eq repr"),
    "machines.Machine": (["__init__(self, places, steps, begins)", "steps(self)", "begins(self)",
                          "with_step(self, step)", "without_step(self, step)", "renumbered(self, order)",
                          "relettered(self, letters)", "beside(self, other)", "come_to(self)", "trimmed(self)"],
                         "places letters", "eq repr"),
    "claims.Claim": (["__init__(self, dues, tolls=None)", "dues(self)", "tolls(self)", "due(self, place)",
                      "toll(self, letter)", "tolls_of(self, word)"], "", "add mul eq repr"),
    "boards.Board": (["__init__(self, rows, turns=None)", "quotes(self, state)", "turns(self)",
                      "then(self, state, letter)", "state_behind(self, word)", "with_quote(self, state, quote)",
                      "without_quote(self, state, number)", "beside(self, other)"],
                     "states letters", "mul eq repr"),
    "markets.Market": (["__init__(self, machine, heard, board)", "with_board(self, board)", "with_heard(self, heard)"],
                       "machine heard board", "eq repr"),
    "desk.Desk": (["__init__(self, market, claim, number)", "do(self, command)", "do_all(self, *commands)",
                   "attempt(self, *commands)", "log(self)", "copy(self)", "__call__(self, command)"],
                  "market claim coins word stand is_stopped held", "len getitem setitem contains call"),
    "desk.Trial": (["__init__(self, desk)"], "", "enter exit"),
}


def module_of(name):
    return importlib.import_module("heardquotes." + name)


class Interface(unittest.TestCase):
    def test_functions(self):
        for name, listed in FUNCTIONS.items():
            for entry in listed:
                function = getattr(module_of(name), entry.partition("(")[0])
                self.assertEqual(function.__name__ + str(inspect.signature(function)), entry)
                self.assertEqual(function.__module__, "heardquotes." + name)

    def test_classes(self):
        for path, (methods, properties, operators) in CLASSES.items():
            module, _, name = path.partition(".")
            made = getattr(module_of(module), name)
            self.assertEqual((made.__module__, made.__bases__), ("heardquotes." + module, (object,)))
            own = vars(made)
            for entry in methods:
                method = own[entry.partition("(")[0]]
                self.assertEqual(method.__name__ + str(inspect.signature(method)), entry)
            for entry in properties.split():
                self.assertIsInstance(own[entry], property)
            for entry in operators.split():
                self.assertIn(f"__{entry}__", own)

    def test_class_methods(self):
        for made, name, signature in ((module_of("ratios").Ratio, "total", "(cls, numbers)"),
                                      (module_of("desk").Desk, "again", "(cls, market, claim, number, plans, lines)")):
            method = vars(made)[name]
            self.assertIsInstance(method, classmethod)
            self.assertEqual(str(inspect.signature(method.__func__)), signature)


if __name__ == "__main__":
    unittest.main()
