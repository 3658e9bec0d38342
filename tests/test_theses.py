import random
import unittest

from helper import ODD_VALUES, is_same, raised
from judges import Told, barring_market, is_number, made_odd, part_at, places_in, random_board, random_claim, random_market, spoiled
from machinery import random_number
from test_bells import BOARD, CLAIM, DAY
from test_folded import COSTLY, EVEN as EVEN_TOLLS, FAR, SWING
from test_late import ALIKE, BLIND, BOTH, EVEN, SOON, TWO_STATES
from test_lengths import DUE, ENDED, FLOW, HALF, PLAN, START, WAIT
from test_orders import LARGE, ONE, OTHER, PAPER, couples, ring_by_c, with_c

from heardquotes.bells import market_with
from heardquotes.boards import Board
from heardquotes.charts import all_charts
from heardquotes.claims import Claim
from heardquotes.folded import cover, folded_plan
from heardquotes.late import late_need
from heardquotes.lengths import need
from heardquotes.machines import Machine
from heardquotes.markets import Market, next_letters_of, stands
from heardquotes.moments import reach
from heardquotes.orders import apart
from heardquotes.programs import Program
from heardquotes.ratios import Ratio
from heardquotes.theses import contrary, is_paper, is_thesis, is_true, paper_of, words

LINES = [("solved", "ruled out"), ("capped", "without end"), ("spent", "rising"), ("fair", "sure"), ("live", "blocked"), ("reached", "short"),
         ("enough", "lacking"), ("at once", "never at once"), ("each length", "some length fails"), ("owing", "not owing"),
         ("late enough", "late lacking"), ("needs at most", "apart"), ("bells enough", "bells lacking")]
CONTRARY = {**dict(LINES), **{two: one for one, two in LINES}}
TWO = Program(2, [([1, 1], 4), ([1, -1], 1)])
LESS = Program(1, [([1], -1)])
NET = Machine(3, [(0, "a", 1), (0, "", 2), (1, "b", 0), (2, "a", 2)], [0])
SURE = Market(Machine(1, [(0, "a", 0), (0, "b", 0)], [0]), "ab", Board([[({"a": 1, "b": 2}, None, 0)]]))
OWING = Claim({0: 1}, {"a": 1})
# The parts of a line, whether the first one is true of them, a paper of the true one, and values that are none of it.
CASES = [
    ("solved", (TWO,), True, [1, 0], [[5, 0], [0, -1], [0], None]),
    ("solved", (LESS,), False, [1], [[0], [-1], [], [1, 1]]),
    ("capped", (TWO, [2, 1]), True, ([Ratio(5, 2), Ratio(3, 2)], [Ratio(3, 2), HALF]), [([1, 1], [Ratio(3, 2), HALF]), [[1], [1]], ([2, 2], [2, 0])]),
    ("capped", (Program(1), (1,)), False, ([0], [1]), [([0], [0]), ([-1], [1]), [[0], [1]], ([0], [1], [1])]),
    ("spent", (NET, "ab", Claim({1: 3}, {"b": -1}), (1, 2)), True, {(1, 2): 3, (0, 2): 3, (2,): 0}, [{(1, 2): 4, (0, 2): 4, (2,): 0}, {(1, 2): 3}, {(1, 2): 3, (0, 2): 5, (2,): 0}, "a"]),
    ("spent", (NET, "ab", Claim({1: 3}), (0, 2)), False, "a", ["aa", "", "b", "aaa", ("", "ab"), {(0, 2): 3}, 0]),
    ("spent", (NET, "ab", Claim({}, {"a": 1}), (0, 2)), False, ("", "ab"), [("", ""), ("a", "b"), ("b", "a"), ["", "ab"], "ba", "b", ("",)]),
    ("spent", (NET, "ab", Claim({}, {"a": 1}), (0, 2)), False, "ab", [("", "aa"), "bb"]),
    ("fair", (WAIT, START), True, {"a": HALF, "b": HALF}, [{"a": 1, "b": 0}, {"a": HALF}, {}, [HALF, HALF]]),
    ("fair", (SURE, ((0,), 0)), False, [1], [[0], [-1], [1, 1], {"a": 1}]),
    ("live", (WAIT, START, "a"), True, {"a": HALF, "b": HALF}, [{"a": 1, "b": 0}, {"a": HALF, "b": HALF, "c": 0}]),
    ("live", (Market(WAIT.machine, "ab", Board([[]])), START, "a"), True, {"a": 1, "b": 0}, [{"a": 0, "b": 1}, {"a": -1, "b": 2}, {"a": 1}]),
    ("live", (FAR, START, "b"), False, [1], [[0], [-1], [], {"b": 1}]),
    ("live", (SURE, ((0,), 0), "b"), False, (Ratio(1, 9),), [[0], [-2]]),
    ("reached", (WAIT, START, {"a": 0, "b": 3}, Ratio(3, 2)), True, [3], [[4], [2], [], {"a": HALF, "b": HALF}]),
    ("reached", (WAIT, START, {"b": 3, "a": 0}, 1), False, {"a": HALF, "b": HALF}, [{"a": 0, "b": 1}, [3], {"a": HALF}]),
    ("reached", (SURE, ((0,), 0), {"a": 5, "b": -5}, -9), True, [14], [[13], [], {}]),
    ("reached", (WAIT, ENDED, {}, -4), True, [3], [[], [0, 0], None]),
    ("enough", (WAIT, DUE, Ratio(9, 4), 2), True, PLAN, [{**PLAN, (START, 2): (Ratio(10, 4), [Ratio(3, 2)])}, FLOW, {}]),
    ("enough", (WAIT, DUE, 2, 2), False, FLOW, [PLAN, {(START, 2): (1, {})}, {}]),
    ("at once", (WAIT, DUE, 3), True, {START: (3, [0]), ENDED: (3, [0])}, [{START: (4, [0]), ENDED: (3, [0])}, {START: (3, [0])}, {}]),
    ("at once", (WAIT, DUE, 2), False, {START: (0, {"a": 1, "b": 1}), ENDED: (1, {})}, [{START: (1, {})}, FLOW, ("a", {})]),
    ("at once", (FAR, COSTLY, 50), False, ("b", {ENDED: {"a": 1}}), [("a", {ENDED: {"a": 1}}), ("b", {START: {"a": 1}}), {START: (1, {})}]),
    ("each length", (WAIT, DUE, 3), True, {START: (3, [0], [0]), ENDED: (3, [0], [0])}, [{START: (3, [0]), ENDED: (3, [0])}, {START: (4, [0], [0]), ENDED: (3, [0], [0])}]),
    ("each length", (WAIT, DUE, 2), False, {START: (0, {"a": 1, "b": 1}), ENDED: (1, {})}, [{START: (1, {})}, ("", {})]),
    ("each length", (SWING, OWING, 50), False, ("", {((0,), 0): {"a": 1, "b": 1}}), [("", {((0,), 0): {"a": 1}}), ("c", {((0,), 0): {"a": 1, "b": 1}})]),
    ("owing", (SWING, OWING), True, {((0,), 0): {"a": 1, "b": 1}}, [{((0,), 0): {"a": 1}}, {((0,), 0): (1, [0])}, {}]),
    ("owing", (SWING, EVEN_TOLLS), False, {((0,), 0): (5, [2])}, [{((0,), 0): (5, [0])}, {((0,), 0): {"a": 1, "b": 1}}, {}]),
    ("late enough", (EVEN, ALIKE, 6, 2, 1), True, BLIND, [SOON, {}, BOTH]),
    ("late enough", (EVEN, ALIKE, 3, 2, 0), True, SOON, [BLIND, {}]),
    ("late enough", (EVEN, ALIKE, 5, 2, 1), False, BOTH, [{"": 1}, {"aa": 1}, BLIND, {"aa": Ratio(1, 4), "ab": Ratio(1, 4), "ba": Ratio(1, 4), "bb": Ratio(1, 4)}]),
    ("needs at most", (OTHER, Claim({1: 3}), ONE, Claim({1: 3}), "ab"), True, PAPER, [PAPER[:1], PAPER + PAPER, []]),
    ("needs at most", (ONE, Claim({1: 3}), OTHER, Claim({1: 3}), "ab"), False, ("", Board([[({"a": 1, "b": -1}, None, 0)], []], {(0, "a"): 1, (0, "b"): 1})),
     [("", Board([[]])), PAPER, ("b", Board([[]]))]),
    ("bells enough", (DAY, BOARD, CLAIM, "b", 5), True, folded_plan(market_with(DAY, BOARD, CLAIM, "b"), CLAIM), [{}, folded_plan(market_with(DAY, BOARD, CLAIM, ""), CLAIM)]),
    ("bells enough", (DAY, BOARD, CLAIM, "", 5), False, {((0, 1, 2), 0): (0, {"x": HALF, "y": HALF}), ((3, 4), 0): (1, {})}, [{((0, 1, 2), 0): (1, {})}, {}]),
]
# By a to 1, where 2 are due; by b, which a quote bars, to where c costs 1 for ever.
BARRING = Market(Machine(3, [(0, "a", 1), (0, "b", 2), (2, "c", 2)], [0]), "abc", Board([[({"b": 1}, None, 0)]]))
TOLLED = Claim({1: 2}, {"c": 1})


def both(line, parts):
    return (line, *parts), (CONTRARY[line], *parts)


class Lines(unittest.TestCase):
    def test_words(self):
        self.assertTrue(is_same(words(), LINES))
        words().clear()
        self.assertEqual(len(words()), 13)

    def test_each_line(self):
        self.assertEqual({case[0] for case in CASES}, {one for one, _ in LINES})
        for line, parts, truth, paper, wrong in CASES:
            first, second = both(line, parts)
            self.assertTrue(is_same([is_thesis(first), is_thesis(second), is_true(first), is_true(second)], [True, True, truth, not truth]), first)
            right, other = (first, second) if truth else (second, first)
            self.assertIs(is_paper(thesis=right, value=paper), True, right)
            self.assertIs(is_paper(right, paper_of(thesis=right)), True, right)
            self.assertIsNone(paper_of(other))
            self.assertIs(is_paper(other, paper), False, other)
            for value in [*wrong, *[value for value in ODD_VALUES if value != paper]]:
                self.assertIs(is_paper(right, value), False, (right, value))
            for value in ODD_VALUES:
                self.assertIs(is_paper(other, value), False, (other, value))

    def test_papers_of_other_lines(self):
        """What shows one thesis shows no other one, of the other word of its line, or of the next line."""
        for at, (line, parts, truth, paper, _) in enumerate(CASES):
            for other, others, _, _, _ in CASES[at + 1:] + CASES[:at]:
                if other != line and {line, other} not in ({"at once", "each length"}, {"at once", "bells enough"}, {"each length", "bells enough"},
                                                           {"at once", "owing"}, {"live", "fair"}, {"reached", "fair"}, {"live", "reached"}, {"solved", "fair"},
                                                           {"solved", "live"}, {"solved", "reached"}, {"owing", "bells enough"}, {"owing", "each length"}):
                    for thesis in both(other, others):
                        self.assertIs(is_paper(thesis, paper), False, (thesis, paper))

    def test_at_the_number_below_and_above(self):
        ladders = [("enough", lambda number: (WAIT, DUE, number, 2), Ratio(9, 4)), ("at once", lambda number: (WAIT, DUE, number), 3),
                   ("each length", lambda number: (BARRING, TOLLED, number), 2), ("late enough", lambda number: (EVEN, ALIKE, number, 2, 1), 6),
                   ("bells enough", lambda number: (DAY, BOARD, CLAIM, "c", number), 5),
                   ("reached", lambda number: (WAIT, START, {"a": -1, "b": 2}, number), HALF)]
        for line, parts, least in ladders:
            for step, truth in ((Ratio(-1, 999), False), (0, True), (Ratio(1, 999), True), (90, True), (-90, False)):
                number = Ratio.total([least, step])
                first, second = both(line, parts(number))
                self.assertIs(is_true(first), truth)
                self.assertIs(is_true(second), not truth)
                right, other = (first, second) if truth else (second, first)
                self.assertIs(is_paper(right, paper_of(right)), True)
                self.assertIsNone(paper_of(other))
                self.assertIs(is_paper(other, paper_of(right)), False)

    def test_at_once_and_each_length_part_where_a_barred_letter_leads_out(self):
        four = ("at once", "never at once", "each length", "some length fails")
        self.assertEqual([is_true((word, BARRING, TOLLED, 9)) for word in four], [False, True, True, False])
        self.assertEqual([is_true((word, BARRING, TOLLED, 1)) for word in four], [False, True, False, True])
        trail, flow, half = ("b", {((2,), 0): {"c": 1}}), {START: (0, {"a": 1}), ENDED: (1, {})}, {START: (2, [0], [1]), ENDED: (2, [0], [0])}
        for number in (1, 9):
            self.assertIs(is_paper(("never at once", BARRING, TOLLED, number), trail), True)
            self.assertIs(is_paper(("some length fails", BARRING, TOLLED, number), trail), False)
            self.assertIs(is_paper(("each length", BARRING, TOLLED, number), half), number == 9)
            for word in ("never at once", "some length fails"):
                self.assertIs(is_paper((word, BARRING, TOLLED, number), flow), number == 1)
            for word in four:
                if is_true((word, BARRING, TOLLED, number)):
                    self.assertIs(is_paper((word, BARRING, TOLLED, number), paper_of((word, BARRING, TOLLED, number))), True)

    def test_papers_that_are_worth_just_the_number(self):
        free = WAIT.with_board(Board([[]]))
        weights, late = {"a": Ratio(2, 3), "b": Ratio(1, 3)}, {"": Ratio(1, 6), "aa": Ratio(5, 12), "bb": Ratio(5, 12)}
        flow = {(START, 1): (Ratio(1, 3), {"a": Ratio(1, 3), "b": Ratio(1, 3)}), (START, 0): (Ratio(1, 3), {}), (ENDED, 0): (Ratio(1, 3), {})}
        folded = {START: (HALF, {"a": HALF, "b": HALF}), ENDED: (HALF, {})}
        for word, parts, number, rest, paper in (("short", (free, START, {"a": 0, "b": 3}), 1, (), weights), ("late lacking", (EVEN, ALIKE), 5, (2, 1), late),
                                                 ("lacking", (WAIT, DUE), 1, (1,), flow), ("never at once", (WAIT, DUE), Ratio(3, 2), (), folded),
                                                 ("some length fails", (WAIT, DUE), Ratio(3, 2), (), folded)):
            self.assertIs(is_paper((word, *parts, number, *rest), paper), False)
            self.assertIs(is_paper((word, *parts, Ratio.total([number, Ratio(-1, 99)]), *rest), paper), True, word)

    def test_by_chance(self):
        chance = random.Random(771)
        seen = {}
        for thesis in theses_by_chance(chance, 40):
            other = contrary(thesis)
            self.assertTrue(is_same([is_thesis(thesis), is_thesis(other), contrary(other)], [True, True, thesis]), thesis)
            truth = is_true(thesis)
            self.assertIs(truth, not is_true(other))
            right, wrong = (thesis, other) if truth else (other, thesis)
            paper = paper_of(right)
            self.assertIs(is_paper(right, paper), True, right)
            self.assertIsNone(paper_of(wrong))
            self.assertIs(is_paper(wrong, paper), False, wrong)
            if any(is_number(part_at(paper, path)) for path in places_in(paper)):
                for _ in range(3):
                    self.assertIs(is_paper(wrong, spoiled(chance, paper)), False)
                    self.assertIn(is_paper(right, spoiled(chance, paper)), (True, False))
            self.assertIn(is_paper(right, made_odd(chance, paper)), (True, False))
            seen[right[0]] = seen.get(right[0], 0) + 1
        self.assertEqual(set(seen), set(CONTRARY))

    def test_truth_by_the_functions_of_the_table(self):
        chance = random.Random(772)
        for thesis in theses_by_chance(chance, 25):
            word, parts = thesis[0], thesis[1:]
            if word == "enough":
                self.assertIs(is_true(thesis), need(parts[0], parts[1], parts[3]).is_at_most(parts[2]))
            if word == "late enough":
                self.assertIs(is_true(thesis), late_need(parts[0], parts[1], *parts[3:]).is_at_most(parts[2]))
            if word == "owing":
                self.assertIs(is_true(thesis), cover(*parts) is None)
            if word == "needs at most":
                self.assertIs(is_true(thesis), apart(*parts) is None)
            if word == "reached":
                least = reach(*parts[:3])
                self.assertIs(is_true(thesis), least is None or least.is_at_most(parts[3]))


def theses_by_chance(chance, rounds):
    """Always with the first word of a line."""
    for _ in range(rounds):
        market = barring_market(chance) if chance.random() < 0.3 else random_market(chance, most_stands=8)
        claim, told = random_claim(chance, market, -1, 1), Told(market)
        stand = chance.choice(stands(market))
        yield "fair", market, stand
        for letter in next_letters_of(market, stand):
            yield "live", market, stand, letter
        coins = {letter: random_number(chance) for letter in sorted(told.leads[stand], reverse=True)}
        yield "reached", market, stand, {letter: coins[letter] for letter in sorted(coins)}, random_number(chance)
        yield "enough", market, claim, random_number(chance, 0, 4), chance.randint(0, 3)
        for word in ("at once", "each length"):
            yield word, market, claim, random_number(chance, 0, 5)
        yield "owing", market, claim
        machine, heard = market.machine, market.heard
        yield "spent", machine, heard, claim, chance.choice(all_charts(machine, heard))
        single = market.with_board(random_board(chance, heard, 1, 2))
        late = ("late enough", single, claim, random_number(chance, 0, 4), chance.randint(0, 2), chance.randint(0, 2))
        if raised(late_need, single, claim, *late[4:]) is None:
            yield late
        program = Program(2, [([random_number(chance), random_number(chance)], random_number(chance, -2, 3)) for _ in range(chance.randint(0, 3))])
        yield "solved", program
        if is_thesis(("solved", program)) and is_true(("solved", program)):
            yield "capped", program, [random_number(chance), random_number(chance)]
        yield ("needs at most", *next(couples(chance, 1)))
        bells = "".join(letter for letter in machine.letters if letter not in market.board.letters and letter not in claim.tolls())
        chosen = "".join(bell for bell in bells if chance.random() < 0.5)
        thesis = ("bells enough", machine, market.board, claim, chosen, random_number(chance, 0, 4))
        if raised(market_with, *thesis[1:5]) is None:
            yield thesis


class Contraries(unittest.TestCase):
    def test_examples(self):
        self.assertTrue(is_same(contrary(thesis=("solved", TWO)), ("ruled out", TWO)))
        for line, parts, _, _, _ in CASES:
            first, second = both(line, parts)
            self.assertTrue(is_same(contrary(first)[0], CONTRARY[line]))
            self.assertEqual((contrary(first), contrary(second)), (second, first))

    def test_numbers_and_tuples_as_they_were_passed(self):
        self.assertTrue(is_same(contrary(("capped", TWO, [2, Ratio(1)])), ("without end", TWO, [2, Ratio(1)])))
        self.assertTrue(is_same(contrary(("without end", TWO, (2, Ratio(1)))), ("capped", TWO, (2, Ratio(1)))))
        self.assertTrue(is_same(contrary(("short", WAIT, START, {"b": 3, "a": Ratio(0)}, Ratio(3))), ("reached", WAIT, START, {"a": Ratio(0), "b": 3}, Ratio(3))))
        self.assertTrue(is_same(contrary(("enough", WAIT, DUE, Ratio(4), 2)), ("lacking", WAIT, DUE, Ratio(4), 2)))

    def test_new_lists_and_dicts(self):
        aim, coins = [2, 1], {"a": 1, "b": 2}
        contrary(("capped", TWO, aim))[2].clear()
        contrary(("reached", WAIT, START, coins, 1))[3].clear()
        is_true(("capped", TWO, aim))
        self.assertEqual((aim, coins), ([2, 1], {"a": 1, "b": 2}))


class Theses(unittest.TestCase):
    def check(self, value):
        self.assertIs(is_thesis(value), False, value)
        for call, rest in ((is_true, []), (contrary, []), (paper_of, []), (is_paper, [None])):
            self.assertEqual(raised(call, value, *rest), ("InvalidThesis", value))

    def test_values_that_are_none(self):
        for value in [*ODD_VALUES, "solved", ["solved", TWO], ("solved",), ("solved", TWO, 0), ("Solved", TWO), ("solve", TWO), (None, TWO), (b"solved", TWO),
                      (("solved",), TWO), ([], TWO), (TWO, "solved"), ("solved", (TWO,)), ("", TWO)]:
            self.check(value)

    def test_parts_that_are_wrong(self):
        """Each part of each line in turn is made something else."""
        for line, parts, _, _, _ in CASES:
            for word in (line, CONTRARY[line]):
                self.check((word, *parts[:-1]))
                self.check((word, *parts, parts[-1]))
                self.check([word, *parts])
                for at, part in enumerate(parts):
                    for value in [*ODD_VALUES, WAIT if isinstance(part, Program) else TWO, [part], (part,)]:
                        if not is_right_too(word, part, value):
                            self.check((word, *parts[:at], value, *parts[at + 1:]))

    def test_parts_that_do_not_belong_together(self):
        wrong = [("capped", LESS, [1]), ("without end", LESS, [1]), ("capped", TWO, [1]), ("capped", TWO, [1, True]), ("capped", TWO, {0: 1, 1: 1}),
                 ("spent", NET, "ac", DUE, (0, 2)), ("spent", NET, "ab", Claim({5: 1}), (0, 2)), ("spent", NET, "ab", DUE, (0,)), ("rising", NET, "ab", DUE, [0, 2]),
                 ("spent", NET, "a", Claim({}, {"b": 1}), (0, 1, 2)), ("fair", WAIT, ((0,), 1)), ("fair", WAIT, ((False,), 0)), ("sure", WAIT, [(0,), 0]),
                 ("live", WAIT, START, "c"), ("live", WAIT, ENDED, "a"), ("blocked", FAR, ENDED, "b"), ("live", WAIT, START, "ab"), ("live", WAIT, START, ""),
                 ("reached", WAIT, START, {"a": 1}, 1), ("reached", WAIT, START, {"a": 1, "b": True}, 1), ("short", WAIT, START, {"a": 1, "b": 2}, "1"),
                 ("short", WAIT, START, {"a": 1, "b": 2}, True), ("enough", WAIT, DUE, 1, 13), ("enough", WAIT, Claim({4: 1}), 1, 2), ("enough", WAIT, DUE, True, 2),
                 ("lacking", WAIT, DUE, 1, True), ("lacking", WAIT, DUE, 1, -1), ("at once", WAIT, Claim({4: 1}), 1), ("at once", WAIT, DUE, None),
                 ("owing", WAIT, Claim({}, {"z": 1})), ("late enough", TWO_STATES, ALIKE, 1, 2, 0), ("late lacking", EVEN, ALIKE, False, 2, 0),
                 ("late enough", SWING, EVEN_TOLLS, 1, 5, 0), ("late enough", EVEN, ALIKE, 1, 2, -1), ("needs at most", ONE, Claim({}, {"a": 1}), OTHER, DUE, "ab"),
                 ("apart", ONE, DUE, OTHER, DUE, "abc"), ("apart", with_c(LARGE), Claim({6: 1}), ring_by_c(3), Claim({}), "abc"),
                 ("bells enough", DAY, BOARD, CLAIM, "x", 1), ("bells lacking", DAY, BOARD, CLAIM, "b", True), ("bells enough", DAY, BOARD, Claim({7: 1}), "b", 1),
                 ("bells enough", DAY, Board([[({"w": 1}, 0, 0)]]), CLAIM, "b", 1)]
        for value in wrong:
            self.check(value)

    def test_a_judge_that_raises_an_error(self):
        """The market of the board that is told would have more than 20 stands."""
        machine = Machine(7, LARGE, [0])
        thesis = ("apart", machine, Claim({6: 1}), Machine(1, [(0, "a", 0), (0, "b", 0)], [0]), Claim({}), "ab")
        self.assertIs(is_true(thesis), True)
        self.assertIs(is_paper(thesis, ("", Board([[]]))), False)
        self.assertIs(is_paper(thesis, None), False)


def is_right_too(word, part, value):
    """Values that are right where another part was: they make another thesis."""
    if isinstance(value, str) and value == "":
        return word in ("needs at most", "apart", "bells enough", "bells lacking")
    return isinstance(value, dict) and value == part


if __name__ == "__main__":
    unittest.main()
