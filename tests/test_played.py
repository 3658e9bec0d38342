import random
import unittest

from helper import ODD_VALUES, fraction, is_same, raised
from judges import Told, made_odd, random_claim, random_market, spoiled
from test_lengths import DOORS, DUE, ENDED, FLOW, HALF, MUTE, OTHER_CLAIMS, PLAN, QUIET, START, WAIT

from heardquotes.boards import Board
from heardquotes.claims import Claim
from heardquotes.lengths import is_length_plan, length_flow, length_plan, need, worth
from heardquotes.machines import Machine
from heardquotes.markets import Market
from heardquotes.played import is_word_plan, left_over, played, word_plan, word_weights
from heardquotes.ratios import Ratio

WRONG_PLANS = [*ODD_VALUES, FLOW, {**PLAN, (START, 2): (2, [2])}, {**PLAN, (START, 3): (9, [0])}, {(START, 13): (3, [0])},
               {START: (3, [0])}, {**PLAN, (ENDED, 0): (2, [0])}, {(ENDED, 0): (3, [0])}, {(START, -1): (3, [0])},
               {(START, False): (0, [0])}, {((0,), 0): (3, [0]), ((1,), 0): (3, [0])},
               {**PLAN, (START, None): (3, [0])}, {**PLAN, (START,): (3, [0])}, {**PLAN, (START, 1, 1): (3, [0])}]
WRONG_FLOWS = [*ODD_VALUES, PLAN, {(START, 13): (1, {})}, {(START, 2): (2, {})}, {START: (1, {})}, {(ENDED, 2): (1, {})},
               {**FLOW, (START, 3): (0, {})}, {(START, False): (1, {})}]
ROUND = Market(Machine(1, [(0, "a", 0), (0, "b", 0)], [0]), "ab", Board([[]]))

# Of fewer than 9 letters: 255 words by a, 128 by b, 65 by c, 34 by d, 15 by e, 2 by f, and the empty one.
FULL_STEPS = [(0, "a", 1), (0, "b", 2), (0, "c", 3), (0, "d", 4), (0, "e", 5), (0, "f", 7), (1, "a", 1), (1, "b", 1),
              (2, "a", 1), (3, "a", 2), (4, "a", 3), (5, "a", 5), (5, "b", 6), (7, "a", 6)]
FULL = Market(Machine(8, FULL_STEPS, [0]), "abcdef", Board([[]]))
OVERFULL = Market(Machine(8, [*FULL_STEPS, (7, "b", 6)], [0]), "abcdef", Board([[]]))


def even_flow(market, many):
    """It goes on by all letters alike, as long as some are left."""
    told = Told(market)
    coming, flow = {told.first: Ratio(1)}, {}
    for left in range(many, -1, -1):
        fresh = {}
        for stand, amount in coming.items():
            leads = told.leads[stand] if left else {}
            weight = amount * Ratio(1, max(1, len(leads)))
            flow[stand, left] = (Ratio(0) if leads else amount, {letter: weight for letter in leads})
            for then in leads.values():
                fresh[then] = fresh.get(then, Ratio(0)) + weight
        coming = fresh
    return flow


def coins_behind(told, claim, number, positions, word):
    """The coins behind each beginning of the word, with the position that is told for each beginning."""
    found, passed = [fraction(number)], told.passed(word)
    for at, letter in enumerate(word):
        gains = told.gains(passed[at], positions[word[:at]])
        found.append(found[-1] + gains[letter] - fraction(claim.toll(letter)))
    return found


def does_cover(told, claim, number, many, positions):
    words = told.all_words(many)
    if set(positions) != {word for word in words if len(word) < many}:
        return False
    if not all(told.can_hold(told.passed(word)[-1], held) for word, held in positions.items()):
        return False
    return all(coins_behind(told, claim, number, positions, word)[-1] >= told.floor(claim, told.passed(word)[-1])
               for word in words)


class Played(unittest.TestCase):
    def test_examples(self):
        self.assertTrue(is_same(played(market=WAIT, claim=DUE, plan=PLAN, word="ab"),
                                [Ratio(9, 4), Ratio(3, 2), Ratio(3)]))
        self.assertTrue(is_same(played(WAIT, DUE, PLAN, ""), [Ratio(9, 4)]))
        self.assertTrue(is_same(played(WAIT, DUE, PLAN, "b"), [Ratio(9, 4), Ratio(3)]))
        rich = {**PLAN, (START, 2): (9, (2,))}
        self.assertTrue(is_same(played(WAIT, DUE, rich, "aa"), [Ratio(9), Ratio(8), Ratio(13, 2)]))
        tolls = Claim({1: 3}, {"a": -1, "b": Ratio(1, 2)})
        plan = length_plan(WAIT, tolls, 2)
        for word in ("aa", "ab", "b"):
            self.assertEqual(played(WAIT, tolls, plan, word)[0], need(WAIT, tolls, 2))

    def test_by_chance(self):
        chance = random.Random(331)
        for _ in range(40):
            market = random_market(chance)
            claim, told = random_claim(chance, market), Told(market)
            many = chance.randint(0, 3)
            plan = length_plan(market, claim, many)
            for word in told.all_words(many):
                passed = told.passed(word)
                coins = played(market, claim, plan, word)
                positions = {word[:at]: plan[passed[at], many - at][1] for at in range(len(word))}
                self.assertTrue(all(isinstance(amount, Ratio) for amount in coins))
                self.assertEqual([fraction(amount) for amount in coins],
                                 coins_behind(told, claim, plan[told.first, many][0], positions, word))
                for at, amount in enumerate(coins):
                    self.assertGreaterEqual(fraction(amount), fraction(plan[passed[at], many - at][0]))

    def test_wrong_words(self):
        for value in [value for value in ODD_VALUES if value != ""] + ["c", "ba", "aaa", "aab", ["a"], "aB", 1]:
            self.assertEqual(raised(played, WAIT, DUE, PLAN, value), ("InvalidWord", value))
        self.assertEqual(raised(played, MUTE, DUE, length_plan(MUTE, DUE, 3), "a"), ("InvalidWord", "a"))

    def test_wrong_plans(self):
        for value in WRONG_PLANS:
            self.assertEqual(raised(played, WAIT, DUE, value, None), ("InvalidPlan", value))
            self.assertEqual(raised(word_plan, WAIT, DUE, value), ("InvalidPlan", value))
            self.assertEqual(raised(left_over, WAIT, DUE, value, None), ("InvalidPlan", value))
        for claim, error in OTHER_CLAIMS:
            self.assertEqual(raised(played, WAIT, claim, None, None), error)
            self.assertEqual(raised(word_plan, WAIT, claim, None), error)
            self.assertEqual(raised(left_over, WAIT, claim, None, None), error)
            self.assertEqual(raised(is_word_plan, WAIT, claim, 1, 13, None), error)


class WordPlans(unittest.TestCase):
    def test_examples(self):
        self.assertTrue(is_same(word_plan(market=WAIT, claim=DUE, plan=PLAN), {
            "": [Ratio(3, 2)], "a": [Ratio(3)], "b": [Ratio(0)]}))
        self.assertTrue(is_same(word_plan(WAIT, DUE, {(START, 0): (0, [0])}), {}))
        self.assertTrue(is_same(word_plan(MUTE, DUE, length_plan(MUTE, DUE, 3)), {"": []}))

    def test_which_values_are_word_plans(self):
        plan = {"": [Ratio(3, 2)], "a": [3], "b": (0,)}
        self.assertIs(is_word_plan(market=WAIT, claim=DUE, number=Ratio(9, 4), many=2, value=plan), True)
        self.assertIs(is_word_plan(WAIT, DUE, 3, 2, {"b": [0], "a": [2], "": [1]}), True)
        self.assertIs(is_word_plan(WAIT, DUE, 0, 0, {}), True)
        self.assertIs(is_word_plan(WAIT, DUE, -1, 0, {}), False)
        self.assertIs(is_word_plan(WAIT, DUE, 0, 0, {"": [0]}), False)
        wrong = [{**plan, "a": [Ratio(29, 10)]}, {**plan, "aa": [0]}, {**plan, "": [1]}, {"": [3], "a": [3]}, {**plan, "b": 0},
                 {**plan, "b": [True]}, {**plan, "c": [0]}, {**plan, "b": [0, 0]}, {**plan, 0: [0]}, {**plan, "b": None}]
        for value in [*ODD_VALUES, *wrong]:
            self.assertIs(is_word_plan(WAIT, DUE, Ratio(9, 4), 2, value), False, value)
        self.assertIs(is_word_plan(WAIT, DUE, Ratio(2), 2, plan), False)
        self.assertIs(is_word_plan(WAIT, DUE, Ratio(9, 4), 3, plan), False)
        self.assertIs(is_word_plan(WAIT, DUE, Ratio(9, 4), 1, plan), False)
        sold = Market(DOORS, "ab", Board([[({"a": 0, "b": 1}, HALF, None)]]))
        self.assertIs(is_word_plan(sold, DUE, 9, 1, {"": [1]}), False)

    def test_by_chance(self):
        chance = random.Random(332)
        verdicts = []
        for _ in range(40):
            market = random_market(chance)
            claim, told = random_claim(chance, market), Told(market)
            many = chance.randint(0, 3)
            plan, least = length_plan(market, claim, many), need(market, claim, many)
            positions = word_plan(market, claim, plan)
            self.assertEqual(list(positions), sorted(word for word in told.all_words(many) if len(word) < many))
            self.assertTrue(does_cover(told, claim, least, many, positions))
            self.assertIs(is_word_plan(market, claim, least, many, positions), True)
            self.assertIs(is_word_plan(market, claim, least - Ratio(1, 50), many, positions), False)
            for _ in range(5):
                if positions:
                    other = spoiled(chance, positions, ["", "a", "b", "ab", "ca", "d", "abca"])
                    right = does_cover(told, claim, least, many, other)
                    self.assertIs(is_word_plan(market, claim, least, many, other), right)
                    verdicts.append(right)
        self.assertGreater(verdicts.count(True), 10)
        self.assertGreater(verdicts.count(False), 30)

    def test_many_words(self):
        """Of fewer than 8 letters there are 255 words, of fewer than 9 there are 511."""
        claim = Claim({0: 1})
        self.assertEqual(len(word_plan(ROUND, claim, length_plan(ROUND, claim, 8))), 255)
        self.assertEqual(raised(word_plan, ROUND, claim, length_plan(ROUND, claim, 9)), ("TooMany", "words", 500))
        self.assertEqual(raised(word_plan, ROUND, claim, length_plan(ROUND, claim, 12)), ("TooMany", "words", 500))
        words = ["".join("ab"[number >> at & 1] for at in range(size)) for size in range(9) for number in range(1 << size)]
        self.assertEqual(len(words), 511)
        self.assertIs(is_word_plan(ROUND, claim, 1, 9, {word: [] for word in words}), True)
        self.assertIs(is_word_plan(ROUND, claim, 1, 10, {word: [] for word in words}), False)
        self.assertIs(is_word_plan(ROUND, claim, 1, 12, {}), False)

    def test_just_five_hundred_words(self):
        claim = Claim({1: 1})
        plan = length_plan(FULL, claim, 9)
        told = word_plan(FULL, claim, plan)
        self.assertEqual(len(told), 500)
        self.assertIs(is_word_plan(FULL, claim, need(FULL, claim, 9), 9, told), True)
        self.assertEqual(raised(word_plan, OVERFULL, claim, length_plan(OVERFULL, claim, 9)), ("TooMany", "words", 500))
        self.assertEqual(len(word_weights(FULL, even_flow(FULL, 8))), 500 - len(
            [word for word in told if len(word) < 8 and Told(FULL).leads[Told(FULL).passed(word)[-1]]]))
        self.assertEqual(raised(word_weights, OVERFULL, even_flow(OVERFULL, 8)), ("TooMany", "words", 500))

    def test_errors(self):
        for value in [*ODD_VALUES, "1"]:
            self.assertEqual(raised(is_word_plan, WAIT, Claim({5: 1}), value, None, None), ("InvalidNumber", value))
        for value in [*ODD_VALUES, -1, Ratio(1)]:
            self.assertEqual(raised(is_word_plan, WAIT, Claim({5: 1}), 1, value, None), ("InvalidMany", value))
        self.assertEqual(raised(is_word_plan, WAIT, DUE, 1, 13, {}), ("TooMany", "letters", 12))


class WordWeights(unittest.TestCase):
    def test_examples(self):
        quarter = Ratio(1, 4)
        self.assertTrue(is_same(word_weights(market=WAIT, flow=FLOW), {"aa": quarter, "ab": quarter, "b": HALF}))
        self.assertTrue(is_same(word_weights(WAIT, {(START, 3): (1, {})}), {"": Ratio(1)}))
        net = Market(Machine(2, [(0, "a", 1), (0, "b", 1), (1, "a", 0)], [0]), "ab", Board([[]]))
        flow = {(START, 2): (HALF, {"a": quarter, "b": quarter}), (ENDED, 1): (Ratio(1, 3), {"a": Ratio(1, 6)}),
                (START, 0): (Ratio(1, 6), {})}
        self.assertTrue(is_same(word_weights(net, flow), {
            "": HALF, "a": Ratio(1, 6), "aa": Ratio(1, 12), "b": Ratio(1, 6), "ba": Ratio(1, 12)}))

    def test_by_chance(self):
        chance = random.Random(333)
        for _ in range(40):
            market = random_market(chance)
            claim, told = random_claim(chance, market), Told(market)
            many = chance.randint(0, 4)
            flow = length_flow(market, claim, many)
            weights = word_weights(market, flow)
            self.assertEqual(list(weights), sorted(weights))
            self.assertTrue(all(isinstance(weight, Ratio) and weight.sign > 0 for weight in weights.values()))
            self.assertEqual(Ratio.total(list(weights.values())), Ratio(1))
            self.assertLessEqual(max(map(len, weights)), many)
            self.assertEqual(sum(fraction(weight) * (told.floor(claim, told.passed(word)[-1]) + fraction(claim.tolls_of(word)))
                                 for word, weight in weights.items()), fraction(worth(market, claim, flow)))
            for word in told.all_words(many - 1) if many else []:
                stand = told.passed(word)[-1]
                by = {letter: sum([weights[longer] for longer in weights if longer.startswith(word + letter)], Ratio(0))
                      for letter in told.leads[stand]}
                self.assertTrue(told.are_fair(stand, by))

    def test_many_words(self):
        """A flow that parts at each letter: 511 words at 8 letters, 255 at 7."""
        for many, words in ((7, 255), (8, 511), (12, 8191)):
            flow = {(((0,), 0), left): (0, {"a": HALF, "b": HALF}) for left in range(1, many + 1)}
            flow[((0,), 0), 0] = (1, {})
            if words <= 500:
                self.assertEqual(len(word_weights(ROUND, flow)), 1 << many)
            else:
                self.assertEqual(raised(word_weights, ROUND, flow), ("TooMany", "words", 500))

    def test_wrong_flows(self):
        for value in WRONG_FLOWS:
            self.assertEqual(raised(word_weights, WAIT, value), ("InvalidFlow", value))
            self.assertEqual(raised(left_over, WAIT, DUE, PLAN, value), ("InvalidFlow", value))
        chance = random.Random(334)
        for _ in range(40):
            value = made_odd(chance, FLOW)
            self.assertIn(raised(word_weights, WAIT, value)[0], ("InvalidFlow",))


class LeftOver(unittest.TestCase):
    def test_examples(self):
        self.assertTrue(is_same(left_over(market=WAIT, claim=DUE, plan=PLAN, flow=FLOW), (Ratio(0),) * 3))
        rich = {**PLAN, (START, 2): (5, [2]), (ENDED, 1): (4, [0])}
        # It leaves 1/2 at the end behind b; 5 - 1 and 5 + 1 less what is told behind them by halves.
        self.assertTrue(is_same(left_over(WAIT, DUE, rich, FLOW), (HALF, Ratio(9, 4), Ratio(0))))
        asked = Market(DOORS, "ab", Board([[({"a": 0, "b": 1}, 0, 1)]]))
        plan = {**PLAN, (START, 2): (9, [1]), (START, 1): (8, [0])}
        self.assertTrue(is_same(left_over(asked, DUE, plan, FLOW), (Ratio(0), Ratio(25, 4), HALF)))
        self.assertEqual(raised(left_over, WAIT, DUE, PLAN, {(START, 1): (1, {})}), ("InvalidFlow", {(START, 1): (1, {})}))

    def test_by_chance(self):
        chance = random.Random(335)
        seen = set()
        for _ in range(120):
            market = random_market(chance)
            claim, other = random_claim(chance, market), random_claim(chance, market)
            many = chance.randint(0, 4)
            plan = length_plan(market, claim, many)
            flow = length_flow(market, chance.choice([claim, other]), many)
            if chance.random() < 0.5:
                key = Told(market).first, many
                quotes = market.board.quotes(key[0][1]) if key[1] else []
                held = [-1 if ask is None else 1 for _, _, ask in quotes] or plan[key][1]
                more = {**plan, key: (plan[key][0] + chance.randint(5, 30), held)}
                plan = more if is_length_plan(market, claim, 99, many, more) else plan
            first = Told(market).first, many
            over = left_over(market, claim, plan, flow)
            self.assertTrue(all(part.sign >= 0 for part in over))
            self.assertEqual(Ratio.total(over), plan[first][0] - worth(market, claim, flow))
            best = plan[first][0] == need(market, claim, many) == worth(market, claim, flow)
            self.assertEqual(over == (Ratio(0),) * 3, best)
            seen |= {(at, part.sign) for at, part in enumerate(over)}
        self.assertEqual(len(seen), 6)

    def test_other_lengths(self):
        for many in (0, 1, 3):
            flow = length_flow(QUIET, DUE, many)
            self.assertEqual(raised(left_over, QUIET, DUE, length_plan(QUIET, DUE, 2), flow), ("InvalidFlow", flow))


if __name__ == "__main__":
    unittest.main()
