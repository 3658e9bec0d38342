import random
import unittest

from helper import ODD_VALUES, fraction, is_same, raised
from judges import Told, barring_market, kinds_of, made_odd, random_claim, random_market, spoiled
from test_folded import OTHER_STANDS
from test_lengths import DUE, OTHER_CLAIMS, WAIT
from test_markets import MARKET, WRONG_STANDS

from heardquotes.boards import Board
from heardquotes.claims import Claim
from heardquotes.folded import cover, covers, folded_plan
from heardquotes.kinds import half_at_length, half_plan, is_half_plan, kind, kinds, limit, limits
from heardquotes.lengths import is_length_plan, need, need_from
from heardquotes.machines import Machine
from heardquotes.markets import Market, stands
from heardquotes.ratios import Ratio
from heardquotes.rings import live_from

HALF = Ratio(1, 2)
# By a it ends where 2 are due; by b, which is barred, it comes to where each c costs 1.
BOARD = Board([[({"b": 1}, None, 0)]])
SHOP = Market(Machine(3, [(0, "a", 1), (0, "b", 2), (2, "c", 2)], [0]), "abc", BOARD)
CLAIM = Claim({1: 2}, {"c": 1})
FIRST, ENDED, EVER = [((place,), 0) for place in range(3)]
PLAN = {FIRST: (2, [0], [1]), ENDED: (2, [0], [0])}
FREE = Claim({1: 2}, {"c": -1})


def cases(chance, rounds, most_stands=5):
    """Markets by chance, of which letters are barred and rings owe often, with their kinds."""
    for _ in range(rounds):
        market = random_market(chance, most_stands=most_stands)
        while chance.random() < 0.5:
            other = barring_market(chance)
            market = other if len(stands(other)) <= most_stands else market
        claim, told = random_claim(chance, market, *chance.choice([(-2, 1), (-1, 2)])), Told(market)
        yield market, claim, told, kinds_of(told, claim)


class Kinds(unittest.TestCase):
    def test_examples(self):
        self.assertTrue(is_same(kinds(market=SHOP, claim=CLAIM), {FIRST: "bounded", ENDED: "sound", EVER: "endless"}))
        self.assertEqual([kind(SHOP, CLAIM, stand) for stand in (FIRST, ENDED, EVER)], ["bounded", "sound", "endless"])
        self.assertEqual(kind(market=SHOP, claim=FREE, stand=FIRST), "sound")
        self.assertEqual(set(kinds(SHOP, FREE).values()), {"sound"})
        open_shop = SHOP.with_board(Board([[]]))
        self.assertEqual(list(kinds(open_shop, CLAIM).values()), ["endless", "sound", "endless"])

    def test_by_chance(self):
        chance = random.Random(371)
        seen = {"sound": 0, "bounded": 0, "endless": 0}
        for market, claim, told, expected in cases(chance, 250):
            self.assertEqual(list(kinds(market, claim).items()), sorted(expected.items()), (market, claim))
            for stand in stands(market):
                self.assertEqual(kind(market, claim, stand), expected[stand])
                seen[expected[stand]] += 1
            self.assertEqual(expected[told.first] == "sound", folded_plan(market, claim) is not None)
        self.assertGreater(min(seen.values()), 10)

    def test_errors(self):
        wrong = [value for value in WRONG_STANDS if value not in ([], ((2,), 0))]
        for value in wrong:
            self.assertEqual(raised(kind, MARKET, Claim({7: 1}), value), ("InvalidStand", value))
        for claim, error in OTHER_CLAIMS:
            self.assertEqual(raised(kind, WAIT, claim, ((0,), 0)), error)
            for call in (kinds, limit, limits, half_plan):
                self.assertEqual(raised(call, WAIT, claim), error)
            self.assertEqual(raised(is_half_plan, WAIT, claim, None), error)
            self.assertEqual(raised(half_at_length, WAIT, claim, None, 13), error)


class Limits(unittest.TestCase):
    def test_examples(self):
        self.assertTrue(is_same(limit(market=SHOP, claim=CLAIM), Ratio(2)))
        self.assertTrue(is_same(limits(market=SHOP, claim=CLAIM), {FIRST: Ratio(2), ENDED: Ratio(2)}))
        self.assertTrue(is_same(limits(SHOP, FREE), covers(SHOP, FREE)))
        self.assertIsNone(limit(SHOP.with_board(Board([[]])), CLAIM))
        self.assertTrue(is_same(limits(SHOP.with_board(Board([[]])), CLAIM), {ENDED: Ratio(2)}))
        self.assertEqual(limit(WAIT, DUE), Ratio(3))
        self.assertEqual([need_from(SHOP, CLAIM, EVER, many) for many in (0, 5, 12)], [Ratio(0), Ratio(5), Ratio(12)])

    def test_by_chance(self):
        chance = random.Random(372)
        for market, claim, told, expected in cases(chance, 100):
            least = limits(market, claim)
            self.assertEqual(list(least), sorted(stand for stand in expected if expected[stand] != "endless"))
            self.assertEqual(limit(market, claim), least.get(told.first))
            live = {stand: told.live(stand) for stand in told.leads}
            for stand in least:
                averages = [sum(weights[letter] * (fraction(least[told.leads[stand][letter]]) + fraction(claim.toll(letter)))
                                for letter in live[stand]) for weights in told.corners(stand)]
                self.assertEqual(fraction(least[stand]), max([told.floor(claim, stand), *averages]))
                self.assertTrue(need_from(market, claim, stand, 6).is_at_most(least[stand]))
            if expected[told.first] == "sound":
                self.assertEqual(least, covers(market, claim))
                self.assertEqual(limit(market, claim), cover(market, claim))
            for stand in set(expected) - set(least):
                far = [need_from(market, claim, stand, many) for many in (0, 6, 12)]
                self.assertTrue(far[0].is_at_most(far[1]) and far[1].is_at_most(far[2]), (market, claim, stand))


class HalfPlans(unittest.TestCase):
    def test_which_values_are_half_plans(self):
        for value in (PLAN, {FIRST: (2, (0,), (HALF,)), ENDED: (2, [7], [0])}, {**PLAN, FIRST: (5, [3], [1])}):
            self.assertIs(is_half_plan(market=SHOP, claim=CLAIM, value=value), True)
        self.assertIs(is_half_plan(SHOP, FREE, {FIRST: (2, [0], [0]), ENDED: (2, [0], [0]), EVER: (0, [0], [0])}), True)
        self.assertIs(is_half_plan(SHOP, CLAIM, {FIRST: (2, [0], [1]), ENDED: (2, [0], [0])}), True)
        wrong = [{**PLAN, FIRST: (2, [0], [0])}, {**PLAN, FIRST: (1, [0], [1])}, {**PLAN, ENDED: (1, [0], [0])},
                 {ENDED: (2, [0], [0])}, {FIRST: (2, [0], [1])}, {**PLAN, EVER: (2, [0], [0])}, {**PLAN, ENDED: (3, [0], [0])},
                 {**PLAN, FIRST: (2, [0])}, {**PLAN, FIRST: [2, [0], [1]]}, {**PLAN, FIRST: (2, [0], [1], [1])}, {**PLAN, FIRST: (2, [], [1])},
                 {**PLAN, FIRST: (2, [0], [])}, {**PLAN, FIRST: (2, [0], [True])}, {**PLAN, FIRST: (2, [0], [-1])}, {**PLAN, 0: PLAN[ENDED]},
                 {**PLAN, FIRST: (True, [0], [1])}, {((0,), False): PLAN[FIRST], ENDED: PLAN[ENDED]}, {**PLAN, FIRST: (2, 0, 1)}, list(PLAN)]
        for value in [*ODD_VALUES, *wrong]:
            self.assertIs(is_half_plan(SHOP, CLAIM, value), False, value)
            self.assertEqual(raised(half_at_length, SHOP, CLAIM, value, 13), ("InvalidPlan", value))

    def test_the_plan_of_the_limits(self):
        plan = half_plan(market=SHOP, claim=CLAIM)
        self.assertEqual([(stand, plan[stand][0]) for stand in plan], [(FIRST, Ratio(2)), (ENDED, Ratio(2))])
        self.assertIs(is_half_plan(SHOP, CLAIM, plan), True)
        self.assertIsNone(half_plan(SHOP.with_board(Board([[]])), CLAIM))

    def test_where_all_is_barred(self):
        """A quote that always gains, and letters that lead to where it owes: just the first stand has to be told."""
        sure = Market(Machine(2, [(0, "a", 0), (0, "c", 1), (1, "c", 1)], [0]), "ac",
                      Board([[({"a": 1, "c": 1}, None, 0)], []], {(0, "c"): 1}))
        claim = Claim({0: 1}, {"c": 1, "a": 5})
        plan = half_plan(sure, claim)
        self.assertEqual(list(plan), [((0,), 0)])
        self.assertIs(is_half_plan(sure, claim, plan), True)
        self.assertTrue(Told(sure).is_half_plan(claim, plan))
        self.assertEqual(limit(sure, claim), Ratio(1))

    def test_folded_plans_are_half_plans(self):
        chance = random.Random(373)
        for market, claim, told, expected in cases(chance, 40):
            plan = folded_plan(market, claim)
            if plan is not None:
                half = {stand: (coins, position, [0] * len(position)) for stand, (coins, position) in plan.items()}
                self.assertIs(is_half_plan(market, claim, half), True)
                self.assertIs(is_half_plan(market, claim, plan), False)

    def test_by_chance(self):
        chance = random.Random(374)
        verdicts = []
        for market, claim, told, expected in cases(chance, 100):
            plan, least = half_plan(market, claim), limits(market, claim)
            self.assertEqual(plan is None, expected[told.first] == "endless")
            if plan is None:
                continue
            self.assertEqual(list(plan), live_from(market, told.first))
            self.assertTrue(told.is_half_plan(claim, plan))
            self.assertIs(is_half_plan(market, claim, plan), True)
            for stand, (coins, position, free) in plan.items():
                self.assertEqual(coins, least[stand])
                self.assertTrue(all(isinstance(part, Ratio) for part in [coins, *position, *free]))
            for _ in range(6):
                other = spoiled(chance, plan, [*told.leads, *OTHER_STANDS])
                right = told.is_half_plan(claim, other)
                self.assertIs(is_half_plan(market, claim, other), right, (market, claim, other))
                verdicts.append(right)
                self.assertIs(is_half_plan(market, claim, made_odd(chance, plan)), False)
        self.assertGreater(verdicts.count(True), 30)
        self.assertGreater(verdicts.count(False), 60)


class AtLength(unittest.TestCase):
    def test_example(self):
        self.assertIs(is_length_plan(SHOP, CLAIM, 2, 5, half_at_length(market=SHOP, claim=CLAIM, plan=PLAN, many=5)), True)
        value = half_at_length(SHOP, CLAIM, PLAN, 0)
        self.assertTrue(is_same(value, {(FIRST, 0): (Ratio(2), [Ratio(0)])}))
        value = half_at_length(SHOP, CLAIM, PLAN, 9)
        self.assertEqual((value[FIRST, 9][0], value[EVER, 8][0], value[ENDED, 8][0]), (Ratio(2), Ratio(8), Ratio(2)))

    def test_a_position_that_loses_at_a_barred_letter(self):
        """There have to be so many free bets that they bring this back, too."""
        market = SHOP.with_board(Board([[({"b": 1}, None, 0), ({"a": 0, "b": -5}, None, 0)]]))
        plan = {FIRST: (2, [0, 1], [1, 0]), ENDED: (3, [0, 0], [0, 0])}
        self.assertIs(is_half_plan(market, CLAIM, plan), False)
        plan[ENDED] = (2, [0, 0], [0, 0])
        self.assertIs(is_half_plan(market, CLAIM, plan), True)
        for many in range(13):
            value = half_at_length(market, CLAIM, plan, many)
            self.assertTrue(Told(market).is_length_plan(CLAIM, 2, many, value))

    def test_for_all_lengths_and_with_more_coins(self):
        chance = random.Random(375)
        bounded = 0
        for market, claim, told, expected in cases(chance, 100):
            plan = half_plan(market, claim)
            if plan is None:
                continue
            bounded += expected[told.first] == "bounded"
            rich = {stand: (coins + 3, position, free) for stand, (coins, position, free) in plan.items()}
            plans = [plan, rich] if is_half_plan(market, claim, rich) else [plan]
            for some in plans:
                for many in (0, 1, 2, 5, 12):
                    value = half_at_length(market, claim, some, many)
                    self.assertEqual(list(value), sorted(told.keys(many)))
                    self.assertEqual(value[told.first, many][0], some[told.first][0])
                    self.assertTrue(told.is_length_plan(claim, some[told.first][0], many, value), (market, claim, some, many))
                    self.assertIs(is_length_plan(market, claim, some[told.first][0], many, value), True)
                    self.assertTrue(need(market, claim, many).is_at_most(some[told.first][0]))
        self.assertGreater(bounded, 3)

    def test_errors(self):
        for value in [*ODD_VALUES, -1, Ratio(1), "1"]:
            self.assertEqual(raised(half_at_length, SHOP, Claim({7: 1}), None, value), ("InvalidMany", value))
        self.assertEqual(raised(half_at_length, SHOP, CLAIM, PLAN, 13), ("TooMany", "letters", 12))

    def test_what_is_passed_does_not_change(self):
        plan = {FIRST: (2, [0], [1]), ENDED: (2, [0], [0])}
        half_at_length(SHOP, CLAIM, plan, 3)[FIRST, 3][1].append(5)
        self.assertTrue(is_same(plan, PLAN))
        half_plan(SHOP, CLAIM)[FIRST][2].append(5)
        limits(SHOP, CLAIM).clear()
        self.assertEqual([len(half_plan(SHOP, CLAIM)[FIRST][2]), len(limits(SHOP, CLAIM))], [1, 2])


if __name__ == "__main__":
    unittest.main()
