import random
import unittest
from fractions import Fraction

from helper import ODD_VALUES, fraction, is_same, raised
from judges import Told, made_odd, random_board, random_claim, solved, spoiled
from machinery import random_machine, random_number
from test_lengths import DUE, HALF, MUTE, OTHER_CLAIMS, QUIET, WAIT

from heardquotes.boards import Board
from heardquotes.claims import Claim
from heardquotes.late import first_late, is_late_plan, is_late_weights, known, late_need, late_plan, late_played, late_weights
from heardquotes.late import late_worth
from heardquotes.lengths import need
from heardquotes.machines import Machine
from heardquotes.markets import Market
from heardquotes.ratios import Ratio

TWICE = Machine(5, [(0, "a", 1), (0, "b", 2), (1, "a", 3), (1, "b", 4), (2, "a", 4), (2, "b", 3)], [0])
EVEN = Market(TWICE, "ab", Board([[({"a": 1, "b": 0}, HALF, HALF)]]))
ALIKE = Claim({3: 6})
SOON = {("", 0): [0], ("a", 1): [6], ("b", 1): [-6]}
BLIND = {("", 0): [0], ("", 1): [0]}
BOTH = {"aa": HALF, "bb": HALF}
FOURTH = {word: Ratio(1, 4) for word in ("aa", "ab", "ba", "bb")}
# One letter of 30 at most, and 31 words; the other machine has one letter more.
LINE = Machine(1, [(0, "a", 0)], [0])
LONG = Market(LINE, "a", Board([[]]))
# 31 words of at most four letters, two behind each.
FULL = Market(Machine(1, [(0, "a", 0), (0, "b", 0)], [0]), "ab", Board([[({"a": 1, "b": 0}, HALF, HALF)]]))
TWO_STATES = Market(TWICE, "ab", Board([[], []]))
THREE_STATES = Market(TWICE, "ab", Board([[], [], []], {(0, "a"): 1}))


class Judge:
    """Late news by the words of the document."""

    def __init__(self, market, many, late):
        self.told, self.late = Told(market), late
        level, self.words = [""], [""]
        for _ in range(many):
            level = [word + letter for word in level for letter in self.told.leads[self.told.passed(word)[-1]]]
            self.words += level
        self.keys = {self.key(word) for word in self.words if word}

    def key(self, word):
        ahead = word[:-1]
        return ("".join(ahead[:len(ahead) - self.late]) if len(ahead) > self.late else "", len(ahead))

    def floor(self, claim, word):
        return self.told.floor(claim, self.told.passed(word)[-1])

    def gains(self, word, position):
        """What the position gains at the last letter of the word."""
        return self.told.gains(self.told.passed(word)[-2], position)[word[-1]]

    def coins(self, claim, number, plan, word):
        found = [fraction(number)]
        for at in range(1, len(word) + 1):
            some = word[:at]
            found.append(found[-1] + self.gains(some, plan[self.key(some)]) - fraction(claim.toll(some[-1])))
        return found

    def is_plan(self, claim, number, plan):
        if set(plan) != self.keys or not all(self.told.can_hold(self.told.first, position) for position in plan.values()):
            return False
        return all(self.coins(claim, number, plan, word)[-1] >= self.floor(claim, word) for word in self.words)

    def passes(self, weights, word):
        return sum(fraction(part) for other, part in weights.items() if other.startswith(word))

    def are_weights(self, weights):
        if not set(weights) <= set(self.words) or any(fraction(part) < 0 for part in weights.values()):
            return False
        if sum(map(fraction, weights.values())) != 1:
            return False
        return all(sum(self.passes(weights, word) * self.gains(word, trade) for word in self.words if word and self.key(word) == key) <= 0
                   for key in self.keys for trade in self.trades())

    def trades(self):
        quotes = self.told.market.board.quotes(0)
        for at, (_, bid, ask) in enumerate(quotes):
            for side, price in ((1, ask), (-1, bid)):
                if price is not None:
                    yield [side if other == at else 0 for other in range(len(quotes))]

    def worth(self, claim, weights):
        return sum(fraction(part) * self.floor(claim, word) for word, part in weights.items()) + sum(
            self.passes(weights, word) * fraction(claim.toll(word[-1])) for word in self.words if word)


def deep_case(chance):
    """What is due hangs on the whole word, and the next letter is quoted."""
    steps = [(place, letter, chance.randint(1, 7)) for place in range(8) for letter in "ab"]
    board = Board([[({"a": 1, "b": 0}, Ratio(chance.randint(1, 3), 4), Ratio(3, 4))]])
    tolls = {letter: random_number(chance, -1, 1) for letter in "ab" if chance.random() < 0.2}
    return Market(Machine(8, steps, [0]), "ab", board), Claim({place: chance.randint(0, 9) for place in range(1, 8)}, tolls)


def late_cases(chance, rounds, many=3, most=15):
    while rounds:
        if most > 7 and chance.random() < 0.4:
            rounds -= 1
            yield deep_case(chance)
            continue
        machine = random_machine(chance, "abc", 4, 8)
        heard = machine.letters[:2] if chance.random() < 0.6 else machine.letters
        if not heard or len(machine.begins()) > 2:
            continue
        market = Market(machine, heard, random_board(chance, heard, 1, 2)) if raised(Market, machine, heard, Board([[]])) is None else None
        if market and len(Judge(market, many, 0).words) <= most:
            rounds -= 1
            yield market, random_claim(chance, market)


class Known(unittest.TestCase):
    def test_examples(self):
        self.assertTrue(is_same(known(word="ab", late=1), ("a", 2)))
        self.assertTrue(is_same([known("ab", late) for late in (0, 2, 3, 10 ** 30)], [("ab", 2), ("", 2), ("", 2), ("", 2)]))
        self.assertTrue(is_same([known("", late) for late in (0, 5)], [("", 0), ("", 0)]))
        self.assertTrue(is_same([known("zzabc", late) for late in range(7)],
                                [("zzabc", 5), ("zzab", 5), ("zza", 5), ("zz", 5), ("z", 5), ("", 5), ("", 5)]))

    def test_errors(self):
        for value in [value for value in ODD_VALUES if value != ""] + ["aB", "a b", 0, ["a"]]:
            self.assertEqual(raised(known, value, None), ("InvalidWord", value))
        for value in [*ODD_VALUES, -1, Ratio(1), "1"]:
            self.assertEqual(raised(known, "ab", value), ("InvalidLate", value))


class Needs(unittest.TestCase):
    def test_examples(self):
        self.assertTrue(is_same([late_need(market=EVEN, claim=ALIKE, many=2, late=late) for late in (0, 1, 2, 99)],
                                [Ratio(3), Ratio(6), Ratio(6), Ratio(6)]))
        self.assertTrue(is_same([late_need(EVEN, ALIKE, many, 1) for many in (0, 1, 2, 3, 10 ** 20)],
                                [Ratio(0), Ratio(0), Ratio(6), Ratio(6), Ratio(6)]))
        self.assertTrue(is_same(late_need(MUTE, DUE, 5, 3), Ratio(3)))
        self.assertEqual(late_need(QUIET, Claim({1: 3}, {"a": 2}), 3, 0), Ratio(7))

    def test_tolls_above_and_below_0(self):
        self.assertEqual(late_need(EVEN, Claim({3: 6}, {"a": 2, "b": 2}), 2, 0), Ratio(7))
        self.assertEqual(late_need(EVEN, Claim({3: 6}, {"a": 2, "b": -2}), 2, 0), Ratio(3))
        self.assertEqual(late_need(EVEN, Claim({3: 6}, {"a": -1, "b": -1}), 2, 1), Ratio(4))
        self.assertEqual(late_need(EVEN, Claim({0: 5, 3: 6}, {"a": -1, "b": -1}), 2, 1), Ratio(5))

    def test_late_by_0_is_the_need_of_the_length(self):
        chance = random.Random(721)
        for market, claim in late_cases(chance, 60):
            for many in range(4):
                self.assertEqual(late_need(market, claim, many, 0), need(market, claim, many))

    def test_it_never_falls_and_stays_in_the_end(self):
        chance = random.Random(722)
        risen = 0
        for market, claim in late_cases(chance, 60):
            table = [[fraction(late_need(market, claim, many, late)) for late in range(4)] for many in range(4)]
            for row in table:
                self.assertEqual(row, sorted(row))
            for late in range(4):
                column = [row[late] for row in table]
                self.assertEqual(column, sorted(column))
            for many in range(4):
                self.assertEqual(len(set(table[many][max(0, many - 1):])), 1)
            risen += table[3][0] < table[3][2]
        self.assertGreater(risen, 5)

    def test_plans_and_weights_show_it(self):
        chance = random.Random(723)
        for market, claim in late_cases(chance, 60):
            many, late = chance.randint(0, 3), chance.randint(0, 3)
            judge, least = Judge(market, many, late), late_need(market, claim, many, late)
            more = least + Ratio(chance.randint(0, 2), 3)
            plan, weights = late_plan(market, claim, more, many, late), late_weights(market, claim, many, late)
            self.assertIsNone(late_plan(market, claim, least - Ratio(1, 1000), many, late))
            self.assertTrue(judge.is_plan(claim, more, plan) and judge.is_plan(claim, least, late_plan(market, claim, least, many, late)))
            self.assertTrue(judge.are_weights(weights))
            self.assertEqual(judge.worth(claim, weights), fraction(least))
            self.assertEqual((list(plan), list(weights)), (sorted(judge.keys), sorted(weights)))
            self.assertTrue(all(isinstance(part, Ratio) and part.sign > 0 for part in weights.values()))
            self.assertTrue(all(isinstance(position, list) and all(isinstance(part, Ratio) for part in position) for position in plan.values()))
            self.assertIs(is_late_plan(market, claim, more, many, late, plan), True)
            self.assertIs(is_late_weights(market, many, late, weights), True)
            self.assertEqual(late_worth(market, claim, many, late, weights), least)

    def test_against_all_corners(self):
        """The worths of all corners of the weights, for words of two letters at most."""
        chance = random.Random(724)
        for market, claim in late_cases(chance, 12, 2, 5):
            for late in (0, 1):
                judge = Judge(market, 2, late)
                best = max(judge.worth(claim, weights) for weights in corners(judge))
                self.assertEqual(fraction(late_need(market, claim, 2, late)), best)

    def test_31_words_and_more(self):
        self.assertEqual(late_need(FULL, Claim({0: 1}, {"a": 1, "b": -1}), 4, 0), Ratio(1))
        self.assertEqual(late_need(LONG, Claim({0: 1}, {"a": 1}), 30, 2), Ratio(31))
        self.assertEqual(len(late_plan(LONG, Claim({}), 0, 30, 3)), 30)
        claim = Claim({0: 1}, {"a": 1})
        for call, rest in late_calls():
            self.assertEqual(raised(call, *rest(LONG, claim, 31, 0, None)), ("TooMany", "words", 31))
            self.assertEqual(raised(call, *rest(LONG, claim, 10 ** 25, 10 ** 25, None)), ("TooMany", "words", 31))
            self.assertEqual(raised(call, *rest(FULL, claim, 5, 1, None)), ("TooMany", "words", 31))


def corners(judge):
    """All corners of the late weights, as dicts."""
    from itertools import combinations
    words = judge.words
    edges = [[sum(judge.gains(word[:at], trade) for at in range(1, len(word) + 1) if judge.key(word[:at]) == key) for word in words]
             for key in judge.keys for trade in judge.trades()]
    edges += [[Fraction(int(word == other)) for other in words] for word in words]
    for chosen in combinations(edges, len(words) - 1):
        numbers = solved([*chosen, [1] * len(words)], [0] * len(chosen) + [1])
        if numbers is not None and min(numbers) >= 0:
            weights = dict(zip(words, numbers))
            if all(sum(part * row[at] for at, part in enumerate(numbers)) <= 0 for row in edges[:-len(words)]):
                yield weights


def late_calls():
    """The functions of market, many and late with a way to ask for them: number and word are right."""
    return ((late_need, lambda market, claim, many, late, value: (market, claim, many, late)),
            (late_plan, lambda market, claim, many, late, value: (market, claim, 1, many, late)),
            (is_late_plan, lambda market, claim, many, late, value: (market, claim, 1, many, late, value)),
            (late_weights, lambda market, claim, many, late, value: (market, claim, many, late)),
            (is_late_weights, lambda market, claim, many, late, value: (market, many, late, value)),
            (late_worth, lambda market, claim, many, late, value: (market, claim, many, late, value)),
            (late_played, lambda market, claim, many, late, value: (market, claim, 1, many, late, value, None)),
            (first_late, lambda market, claim, many, late, value: (market, claim, 1, many)))


class Plans(unittest.TestCase):
    def test_which_values_are_plans(self):
        self.assertIs(is_late_plan(market=EVEN, claim=ALIKE, number=3, many=2, late=0, value=SOON), True)
        self.assertIs(is_late_plan(EVEN, ALIKE, 6, 2, 1, BLIND), True)
        self.assertIs(is_late_plan(EVEN, ALIKE, 6, 2, 9, {("", 1): (0,), ("", 0): [Ratio(0)]}), True)
        self.assertIs(is_late_plan(EVEN, ALIKE, 6, 2, 0, BLIND), False)
        self.assertIs(is_late_plan(EVEN, ALIKE, 3, 2, 1, SOON), False)
        self.assertIs(is_late_plan(EVEN, ALIKE, Ratio(29, 10), 2, 0, SOON), False)
        self.assertIs(is_late_plan(EVEN, ALIKE, 4, 2, 0, SOON), True)
        self.assertIs(is_late_plan(EVEN, ALIKE, 4, 2, 0, {**SOON, ("", 0): [Ratio(1, 10)]}), True)
        self.assertIs(is_late_plan(EVEN, ALIKE, 3, 2, 0, {**SOON, ("", 0): [Ratio(1, 10)]}), False)

    def test_no_letters(self):
        self.assertEqual(late_plan(MUTE, DUE, 3, 4, 1), {})
        self.assertIsNone(late_plan(MUTE, DUE, Ratio(29, 10), 4, 1))
        self.assertIs(is_late_plan(MUTE, DUE, 3, 4, 1, {}), True)
        self.assertIs(is_late_plan(MUTE, DUE, 2, 4, 1, {}), False)
        self.assertIs(is_late_plan(EVEN, ALIKE, 0, 0, 0, {}), True)
        self.assertIs(is_late_plan(EVEN, ALIKE, -1, 0, 0, {}), False)
        self.assertIs(is_late_plan(EVEN, ALIKE, 0, 0, 0, {("", 0): [0]}), False)
        self.assertIs(is_late_plan(EVEN, ALIKE, 6, 2, 0, {}), False)

    def test_lengths_greater_than_any_word(self):
        for many in (2, 3, 12, 13, 10 ** 20):
            self.assertIs(is_late_plan(EVEN, ALIKE, 3, many, 0, SOON), True)
            self.assertTrue(is_same(list(late_plan(EVEN, ALIKE, 3, many, 0)), [("", 0), ("a", 1), ("b", 1)]))
            self.assertTrue(is_same(late_played(EVEN, ALIKE, 3, many, 0, SOON, "bb"), [Ratio(3), Ratio(3), Ratio(6)]))

    def test_values_that_are_none(self):
        wrong = [{**SOON, ("aa", 2): [0]}, {key: SOON[key] for key in SOON if key != ("b", 1)}, {**SOON, ("", 1): [0]}, {**SOON, ("", 0): []},
                 {**SOON, ("", 0): [0, 0]}, {**SOON, ("", 0): [False]}, {**SOON, ("", 0): None}, {**SOON, ("", 0): 0}, list(SOON.items()),
                 {("", False): [0], ("a", 1): [6], ("b", 1): [-6]}, {("", 0): [0], ("a", True): [6], ("b", 1): [-6]},
                 {("", 0): [0], "a": [6], "b": [-6]}, {("", 0): [0], ("a",): [6], ("b", 1): [-6]}, {(0, ""): [0], ("a", 1): [6], ("b", 1): [-6]},
                 {("", 0): [0], ("a", 1, 1): [6], ("b", 1): [-6]}, {(None, 0): [0], ("a", 1): [6], ("b", 1): [-6]}, {0: [0], **SOON}]
        for value in [*ODD_VALUES, *wrong]:
            self.assertIs(is_late_plan(EVEN, ALIKE, 9, 2, 0, value), False, value)
            self.assertEqual(raised(late_played, EVEN, ALIKE, 9, 2, 0, value, None), ("InvalidPlan", value))
        only = EVEN.with_board(Board([[({"a": 1, "b": 0}, None, HALF)]]))
        self.assertIs(is_late_plan(only, Claim({}), 9, 2, 0, {**SOON, ("b", 1): [6]}), True)
        self.assertIs(is_late_plan(only, Claim({}), 9, 2, 0, SOON), False)

    def test_wrong_by_one_thing(self):
        chance = random.Random(725)
        verdicts = []
        for market, claim in late_cases(chance, 40):
            many, late = chance.randint(1, 3), chance.randint(0, 2)
            judge, least = Judge(market, many, late), late_need(market, claim, many, late)
            plan, weights = late_plan(market, claim, least, many, late), late_weights(market, claim, many, late)
            for _ in range(5):
                if plan:
                    other = spoiled(chance, plan, [("", 1), ("a", 2), ("b", 1), *judge.keys])
                    verdicts.append(judge.is_plan(claim, least, other))
                    self.assertIs(is_late_plan(market, claim, least, many, late, other), verdicts[-1])
                    self.assertIs(is_late_plan(market, claim, least, many, late, made_odd(chance, plan)), False)
                spoilt = spoiled(chance, weights, [*judge.words, "abc", "c"])
                verdicts.append(judge.are_weights(spoilt))
                self.assertIs(is_late_weights(market, many, late, spoilt), verdicts[-1])
        self.assertGreater(verdicts.count(True), 10)
        self.assertGreater(verdicts.count(False), 100)


class Weights(unittest.TestCase):
    def test_which_values_are_weights(self):
        self.assertIs(is_late_weights(market=EVEN, many=2, late=1, value=BOTH), True)
        self.assertIs(is_late_weights(EVEN, 2, 0, BOTH), False)
        for value in (FOURTH, {"": 1}, {"": 1, "a": 0, "bb": Ratio(0)}, {"a": HALF, "b": HALF}, {"a": HALF, "ba": Ratio(1, 4), "bb": Ratio(1, 4)}):
            for late in (0, 1, 5):
                self.assertIs(is_late_weights(EVEN, 2, late, value), True)
        self.assertIs(is_late_weights(EVEN, 1, 0, FOURTH), False)
        self.assertIs(is_late_weights(EVEN, 99, 0, FOURTH), True)

    def test_values_that_are_none(self):
        wrong = [{**FOURTH, "aa": Ratio(1, 5)}, {**FOURTH, "": Ratio(1, 9)}, {"aa": 1}, {"aa": HALF, "ba": HALF}, {"": HALF}, {"": 2, "a": -1},
                 {"aaa": 1}, {"c": 0, **FOURTH}, {"": True}, {"": 1, "a": False}, {"": 1, "a": None}, {"": "1"}, {"": 1, 0: 0}, {"": 1, ("a",): 0},
                 {"": 1, None: 0}, list(BOTH.items()), {"": 1, "aaa": 0}, {**BOTH, "ab": Ratio(1, 4), "ba": Ratio(-1, 4)}]
        for value in [*ODD_VALUES, *wrong]:
            self.assertIs(is_late_weights(EVEN, 2, 1, value), False, value)
            self.assertEqual(raised(late_worth, EVEN, ALIKE, 2, 1, value), ("InvalidWeights", value))

    def test_worths(self):
        self.assertTrue(is_same(late_worth(market=EVEN, claim=ALIKE, many=2, late=1, value=BOTH), Ratio(6)))
        self.assertEqual(late_worth(EVEN, Claim({0: 8, 3: 6}, {"a": 1, "b": -3}), 2, 0, {"": HALF, "a": Ratio(1, 4), "ba": Ratio(1, 8), "bb": Ratio(1, 8)}),
                         Ratio(4))
        self.assertTrue(is_same(late_worth(EVEN, ALIKE, 2, 0, {"": 1}), Ratio(0)))
        self.assertTrue(is_same(late_weights(market=EVEN, claim=ALIKE, many=2, late=1), late_weights(EVEN, ALIKE, 7, 30)))
        self.assertEqual(late_worth(EVEN, ALIKE, 2, 1, late_weights(EVEN, ALIKE, 2, 1)), Ratio(6))
        self.assertTrue(is_same(late_weights(MUTE, DUE, 2, 0), {"": Ratio(1)}))

    def test_by_chance(self):
        """What is worth most for one claim has some worth for another one."""
        chance = random.Random(726)
        for market, claim in late_cases(chance, 40):
            many, late = chance.randint(0, 3), chance.randint(0, 2)
            weights = late_weights(market, random_claim(chance, market, -1, 3), many, late)
            judge = Judge(market, many, late)
            self.assertEqual(fraction(late_worth(market, claim, many, late, weights)), judge.worth(claim, weights))
            self.assertLessEqual(judge.worth(claim, weights), fraction(late_need(market, claim, many, late)))


class Played(unittest.TestCase):
    def test_examples(self):
        for word, coins in (("", [3]), ("a", [3, 3]), ("aa", [3, 3, 6]), ("ab", [3, 3, 0]), ("ba", [3, 3, 0]), ("bb", [3, 3, 6])):
            self.assertTrue(is_same(late_played(market=EVEN, claim=ALIKE, number=3, many=2, late=0, plan=SOON, word=word), [Ratio(some) for some in coins]))
        tolls = Claim({3: 6}, {"a": 1, "b": Ratio(-1, 2)})
        self.assertTrue(is_same(late_played(EVEN, tolls, 8, 2, 1, BLIND, "ab"), [Ratio(8), Ratio(7), Ratio(15, 2)]))

    def test_by_chance(self):
        chance = random.Random(727)
        for market, claim in late_cases(chance, 40):
            many, late = chance.randint(0, 3), chance.randint(0, 3)
            judge, number = Judge(market, many, late), late_need(market, claim, many, late) + 1
            plan = late_plan(market, claim, number, many, late)
            for word in judge.words:
                told = late_played(market, claim, number, many, late, plan, word)
                self.assertEqual([fraction(coins) for coins in told], judge.coins(claim, number, plan, word))

    def test_words_that_are_none(self):
        for value in [value for value in ODD_VALUES if value != ""] + ["aaa", "c", "aba", 0, ["a"]]:
            self.assertEqual(raised(late_played, EVEN, ALIKE, 3, 2, 0, SOON, value), ("InvalidWord", value))
        self.assertEqual(raised(late_played, EVEN, ALIKE, 6, 1, 0, {("", 0): [0]}, "aa"), ("InvalidWord", "aa"))


class FirstLate(unittest.TestCase):
    def test_at_below_and_above_a_need(self):
        self.assertEqual(first_late(market=EVEN, claim=ALIKE, number=5, many=2), 1)
        self.assertTrue(is_same([first_late(EVEN, ALIKE, number, 2) for number in (-1, Ratio(29, 10), 3, Ratio(59, 10), 6, 7)],
                                [0, 0, 1, 1, None, None]))
        self.assertEqual([first_late(EVEN, ALIKE, number, 10 ** 9) for number in (2, 4, 6)], [0, 1, None])
        self.assertEqual([first_late(EVEN, ALIKE, number, 0) for number in (-1, 0)], [0, None])
        self.assertEqual([first_late(MUTE, DUE, number, 7) for number in (2, 3)], [0, None])

    def test_by_chance(self):
        chance = random.Random(728)
        seen = {}
        for market, claim in late_cases(chance, 60, 4, 31):
            needs = [late_need(market, claim, 4, late) for late in range(6)]
            for number in [*needs, needs[0] - 1, needs[-1] + 1]:
                right = [late for late, least in enumerate(needs) if not least.is_at_most(number)]
                told = first_late(market, claim, number, 4)
                self.assertEqual(told, right[0] if right else None)
                seen[told] = True
        self.assertEqual(set(seen), {None, 0, 1, 2, 3})


class Errors(unittest.TestCase):
    def test_numbers_lengths_and_lates(self):
        for value in [*ODD_VALUES, "1"]:
            for call in (late_plan, is_late_plan, late_played, first_late):
                rest = {late_plan: [None, None], is_late_plan: [None] * 3, late_played: [None] * 4, first_late: [None]}[call]
                self.assertEqual(raised(call, TWO_STATES, Claim({7: 1}), value, *rest), ("InvalidNumber", value))
        for value in [*ODD_VALUES, -1, Ratio(1), "1"]:
            for call, rest in late_calls():
                self.assertEqual(raised(call, *rest(TWO_STATES, Claim({7: 1}), value, value, None)), ("InvalidMany", value))
                if call is not first_late:
                    self.assertEqual(raised(call, *rest(TWO_STATES, Claim({7: 1}), 1, value, None)), ("InvalidLate", value))

    def test_claims_then_states_then_words(self):
        for call, rest in late_calls():
            if call is not is_late_weights:
                for claim, error in OTHER_CLAIMS:
                    self.assertEqual(raised(call, *rest(WAIT, claim, 40, 0, None)), error)
                self.assertEqual(raised(call, *rest(TWO_STATES, Claim({5: 1}), 2, 0, None)), ("UnknownPlace", 5))
            self.assertEqual(raised(call, *rest(TWO_STATES, ALIKE, 2, 0, None)), ("ManyStates", 2))
            self.assertEqual(raised(call, *rest(THREE_STATES, ALIKE, 2, 0, None)), ("ManyStates", 3))
            many = Market(LINE, "a", Board([[], []]))
            self.assertEqual(raised(call, *rest(many, Claim({}), 31, 0, None)), ("ManyStates", 2))

    def test_what_is_passed_or_told_may_be_changed(self):
        late_played(EVEN, ALIKE, 3, 2, 0, SOON, "aa")
        late_plan(EVEN, ALIKE, 3, 2, 0)[("", 0)].clear()
        late_weights(EVEN, ALIKE, 2, 1).clear()
        self.assertTrue(is_same(SOON, {("", 0): [0], ("a", 1): [6], ("b", 1): [-6]}))
        self.assertEqual(len(late_plan(EVEN, ALIKE, 3, 2, 0)[("", 0)]), 1)
        self.assertIs(is_late_weights(EVEN, 2, 1, late_weights(EVEN, ALIKE, 2, 1)), True)


if __name__ == "__main__":
    unittest.main()
