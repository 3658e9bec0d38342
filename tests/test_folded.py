import random
import unittest

from helper import ODD_VALUES, fraction, is_same, raised
from judges import Told, made_odd, random_claim, random_market, spoiled
from test_lengths import DOORS, DUE, ENDED, HALF, MUTE, OTHER_CLAIMS, QUIET, START, WAIT

from heardquotes.boards import Board
from heardquotes.claims import Claim
from heardquotes.folded import cover, covers, folded_plan, is_folded_plan, plan_at_length
from heardquotes.lengths import is_length_plan, need_from, needs
from heardquotes.machines import Machine
from heardquotes.markets import Market, stands
from heardquotes.ratios import Ratio

OTHER_STANDS = [((0,), 5), ((6, 7), 0), ((0, 1), 0), ((1,), 0), ((2,), 0), ((0,), 1)]
PLAN = {START: (3, [0]), ENDED: (3, [0])}
# One waits at 0 and may come by b, which no fair weights let be, to 1, where each a costs 1.
FAR = Market(Machine(2, [(0, "a", 0), (0, "b", 1), (1, "a", 1)], [0]), "ab", Board([[({"b": 1}, None, 0)]]))
COSTLY = Claim({0: 2}, {"a": 1})
# Goes round for ever: a and b in turn, each as likely as the other one, which costs 1 and brings 1.
SWING = Market(Machine(1, [(0, "a", 0), (0, "b", 0)], [0]), "ab", Board([[({"a": 1, "b": 0}, HALF, HALF)]]))
EVEN = Claim({0: 5}, {"a": 1, "b": -1})


class Covers(unittest.TestCase):
    def test_examples(self):
        self.assertTrue(is_same(cover(market=WAIT, claim=DUE), Ratio(3)))
        self.assertTrue(is_same(covers(market=WAIT, claim=DUE), {START: Ratio(3), ENDED: Ratio(3)}))
        self.assertEqual(cover(MUTE, DUE), Ratio(3))
        self.assertEqual(cover(QUIET, DUE), Ratio(3))
        self.assertEqual(cover(WAIT, Claim({1: 3}, {"a": -1})), Ratio(2))
        self.assertEqual(cover(WAIT, Claim({0: Ratio(9, 4), 1: 3}, {"a": -1})), Ratio(9, 4))
        self.assertEqual(cover(WAIT, Claim({0: 2})), Ratio(2))

    def test_rounds_without_end(self):
        self.assertTrue(is_same(covers(SWING, EVEN), {START: Ratio(5)}))
        self.assertEqual(cover(SWING, Claim({0: 5}, {"a": -1, "b": -1})), Ratio(5))
        self.assertIsNone(cover(SWING, Claim({0: 5}, {"a": 1, "b": Ratio(-999, 1000)})))
        self.assertIsNone(covers(SWING, Claim({0: 5}, {"a": 1})))
        self.assertIsNone(folded_plan(SWING, Claim({}, {"b": 1})))

    def test_rings_behind_barred_letters(self):
        self.assertIsNone(cover(FAR, Claim({0: 2}, {"a": 1})))
        self.assertEqual(cover(FAR, Claim({0: 2}, {"a": -1})), Ratio(2))
        self.assertEqual(cover(FAR, Claim({0: 2}, {"a": 0, "b": 90})), Ratio(2))

    def test_the_covers_are_the_least_coins_and_the_limits_of_the_needs(self):
        chance = random.Random(341)
        none = 0
        for _ in range(60):
            market = random_market(chance)
            claim, told = random_claim(chance, market), Told(market)
            least = covers(market, claim)
            self.assertEqual(cover(market, claim), None if least is None else least[told.first])
            if least is None:
                none += 1
                continue
            self.assertEqual(list(least), sorted(told.leads))
            corners = {stand: told.corners(stand) for stand in told.leads}
            for stand in told.leads:
                averages = [sum(weights[letter] * (fraction(least[then]) + fraction(claim.toll(letter)))
                                for letter, then in told.leads[stand].items()) for weights in corners[stand]]
                self.assertEqual(fraction(least[stand]), max([told.floor(claim, stand), *averages]))
                self.assertTrue(need_from(market, claim, stand, 4).is_at_most(least[stand]))
        self.assertGreater(none, 1)

    def test_needs_come_near(self):
        chance = random.Random(342)
        near = 0
        for _ in range(40):
            market = random_market(chance)
            claim = random_claim(chance, market, -2, 0)
            least = cover(market, claim)
            table = needs(market, claim, 12)
            self.assertTrue(all(level.is_at_most(least) for level in table))
            near += (least - table[-1]).is_below(Ratio(1, 10))
        self.assertGreater(near, 30)


class Plans(unittest.TestCase):
    def test_examples(self):
        self.assertTrue(is_same(folded_plan(market=WAIT, claim=DUE), {START: (Ratio(3), [Ratio(0)]), ENDED: (Ratio(3), [Ratio(0)])}))
        self.assertIs(is_folded_plan(market=WAIT, claim=DUE, value=PLAN), True)
        self.assertIs(is_folded_plan(WAIT, DUE, {ENDED: (Ratio(7, 2), (Ratio(1, 3),)), START: (4, [Ratio(0)])}), True)
        self.assertIs(is_folded_plan(WAIT, DUE, {START: (4, [1]), ENDED: (3, [0])}), False)

    def test_wrong_by_one_thing(self):
        wrong = [{START: (3, [0]), ENDED: (4, [0])}, {START: (3, [0]), ENDED: (2, [0])}, {START: (3, [1]), ENDED: (3, [0])},
                 {START: (3, [0])}, {ENDED: (3, [0])}, {**PLAN, ((0, 1), 0): (3, [0])}, {**PLAN, ENDED: [3, [0]]},
                 {**PLAN, ENDED: (3, [0], [0])}, {**PLAN, ENDED: (3,)}, {**PLAN, ENDED: (3, [])}, {**PLAN, ENDED: (3, [False])},
                 {**PLAN, ENDED: (3, 0)}, {**PLAN, ENDED: ("3", [0])}, {**PLAN, 0: (3, [0])}, {((0,), False): (3, [0]), ENDED: (3, [0])},
                 {START: (3, [0]), ((True,), 0): (3, [0])}, {START: (True, [0]), ENDED: (True, [0])}, list(PLAN), list(PLAN.items())]
        for value in [*ODD_VALUES, *wrong]:
            self.assertIs(is_folded_plan(WAIT, DUE, value), False, value)
        self.assertIs(is_folded_plan(WAIT, Claim({}), {START: (True, [0]), ENDED: (1, [0])}), False)
        sold = Market(DOORS, "ab", Board([[({"a": 0, "b": 1}, HALF, None)]]))
        self.assertIs(is_folded_plan(sold, DUE, {**PLAN, ENDED: (3, [1])}), False)

    def test_by_chance(self):
        chance = random.Random(343)
        verdicts = []
        for _ in range(60):
            market = random_market(chance)
            claim, told = random_claim(chance, market), Told(market)
            plan = folded_plan(market, claim)
            if plan is None:
                continue
            least = covers(market, claim)
            self.assertEqual({stand: plan[stand][0] for stand in plan}, least)
            self.assertEqual(list(plan), sorted(plan))
            self.assertTrue(told.is_folded_plan(claim, plan))
            self.assertIs(is_folded_plan(market, claim, plan), True)
            for stand, (coins, position) in plan.items():
                self.assertTrue(all(isinstance(part, Ratio) for part in [coins, *position]))
                if not told.leads[stand]:
                    self.assertTrue(all(part == Ratio(0) for part in position))
            for _ in range(6):
                other = spoiled(chance, plan, OTHER_STANDS)
                right = told.is_folded_plan(claim, other)
                self.assertIs(is_folded_plan(market, claim, other), right)
                verdicts.append(right)
                self.assertIs(is_folded_plan(market, claim, made_odd(chance, plan)), False)
        self.assertGreater(verdicts.count(True), 20)
        self.assertGreater(verdicts.count(False), 60)


class AtLength(unittest.TestCase):
    def test_example(self):
        rich = {START: (4, (0,)), ENDED: (Ratio(7, 2), [2])}
        self.assertTrue(is_same(plan_at_length(market=WAIT, claim=DUE, plan=rich, many=1), {
            (START, 0): (Ratio(4), [Ratio(0)]), (START, 1): (Ratio(4), [Ratio(0)]), (ENDED, 0): (Ratio(7, 2), [Ratio(0)])}))
        self.assertTrue(is_same(plan_at_length(WAIT, DUE, rich, 2)[ENDED, 1], (Ratio(7, 2), [Ratio(2)])))
        self.assertTrue(is_same(plan_at_length(WAIT, DUE, rich, 0), {(START, 0): (Ratio(4), [Ratio(0)])}))

    def test_by_chance(self):
        chance = random.Random(344)
        for _ in range(40):
            market = random_market(chance)
            claim, told = random_claim(chance, market), Told(market)
            plan = folded_plan(market, claim)
            if plan is not None:
                for many in (0, 1, 3, 12):
                    value = plan_at_length(market, claim, plan, many)
                    self.assertEqual(list(value), sorted(told.keys(many)))
                    self.assertTrue(told.is_length_plan(claim, plan[told.first][0], many, value))
                    self.assertIs(is_length_plan(market, claim, plan[told.first][0], many, value), True)
                    self.assertTrue(all(value[key][0] == plan[key[0]][0] for key in value))

    def test_errors(self):
        for value in [*ODD_VALUES, -1, Ratio(1), "1"]:
            self.assertEqual(raised(plan_at_length, WAIT, Claim({5: 1}), None, value), ("InvalidMany", value))
        for claim, error in OTHER_CLAIMS:
            self.assertEqual(raised(plan_at_length, WAIT, claim, None, 13), error)
            for call in (cover, covers, folded_plan):
                self.assertEqual(raised(call, WAIT, claim), error)
            self.assertEqual(raised(is_folded_plan, WAIT, claim, None), error)
        for value in [*ODD_VALUES, {START: (3, [0])}, {**PLAN, ENDED: (2, [0])}]:
            self.assertEqual(raised(plan_at_length, WAIT, DUE, value, 13), ("InvalidPlan", value))
        self.assertEqual(raised(plan_at_length, WAIT, DUE, PLAN, 13), ("TooMany", "letters", 12))

    def test_what_is_passed_does_not_change(self):
        plan = {START: (4, [0]), ENDED: (3, [1])}
        plan_at_length(WAIT, DUE, plan, 3)[START, 3][1].append(5)
        self.assertTrue(is_same(plan, {START: (4, [0]), ENDED: (3, [1])}))
        covers(WAIT, DUE).clear()
        folded_plan(WAIT, DUE)[START][1].append(4)
        self.assertEqual([len(stands(WAIT)), len(folded_plan(WAIT, DUE)[START][1])], [2, 1])


if __name__ == "__main__":
    unittest.main()
