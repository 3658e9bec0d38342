import random
import unittest

from helper import ODD_VALUES, fraction, is_same, raised
from judges import Told, made_odd, random_claim, random_market, spoiled
from test_folded import EVEN, FAR, SWING
from test_lengths import DUE, ENDED, HALF, MUTE, OTHER_CLAIMS, START, WAIT

from heardquotes.boards import Board
from heardquotes.claims import Claim
from heardquotes.flows import flow_above, flow_at_length, flow_worth, greatest_flow, is_flow, is_tight, on_the_way
from heardquotes.folded import cover, covers, folded_plan
from heardquotes.lengths import is_length_flow, need, worth
from heardquotes.machines import Machine
from heardquotes.markets import Market
from heardquotes.ratios import Ratio

FLOW = {START: (0, {"a": 1, "b": 1}), ENDED: (1, {})}
TOLD_FLOW = {START: (Ratio(0), {"a": Ratio(1), "b": Ratio(1)}), ENDED: (Ratio(1), {})}
PLAN = {START: (3, [0]), ENDED: (3, [0])}
# Goes round with half of what comes in, and ends with the other half.
PART = {START: (HALF, {"a": HALF, "b": HALF}), ENDED: (HALF, {})}
WRONG = [*ODD_VALUES, {START: (1, {"a": 1, "b": 1}), ENDED: (1, {})}, {START: (0, {"a": 1, "b": 1})}, {START: (1, {}), ENDED: (0, {})},
         {START: (0, {"a": 1, "b": 1}), ENDED: (2, {})}, {START: (0, {"b": 1}), ENDED: (1, {})}, {ENDED: (1, {})},
         {START: (0, {"a": 1, "b": 1}), ENDED: (0, {"a": 1})}, {START: (2, {"a": 1}), ENDED: (1, {})},
         {START: (0, {"a": 1, "b": 1, "c": 1}), ENDED: (1, {})}, {START: (1, {"a": 0})}, {START: (True, {})},
         {START: [1, {}]}, {START: (1, [])}, {START: (1,)}, {START: (1, {}, {})}, {((0,), False): (1, {})}, {START: ("1", {})},
         {((False,), 0): (1, {})}, {START: (0, {"a": True, "b": True}), ENDED: (1, {})}, {START: (2, {})}, {START: (HALF, {})},
         {**FLOW, 0: (0, {})}, {**FLOW, ((0, 1), 0): (0, {})}, {START: (-1, {"a": 1, "b": 2}), ENDED: (2, {})}, list(FLOW.items())]


class Worth(unittest.TestCase):
    def test_which_values_are_flows(self):
        for value in (FLOW, TOLD_FLOW, PART, {START: (1, {})}, {ENDED: (1, {}), START: (Ratio(0), {"b": Ratio(1), "a": 1})}):
            self.assertIs(is_flow(market=WAIT, value=value), True)
        for value in WRONG:
            self.assertIs(is_flow(WAIT, value), False, value)
            self.assertEqual(raised(flow_worth, WAIT, DUE, value), ("InvalidFlow", value))
        self.assertIs(is_flow(SWING, {START: (1, {"a": 5, "b": 5})}), True)
        self.assertIs(is_flow(SWING, {START: (1, {"a": 5, "b": 4})}), False)
        self.assertIs(is_flow(FAR, {START: (1, {"a": 7})}), True)
        self.assertIs(is_flow(FAR, {START: (0, {"a": 7, "b": 1}), ENDED: (1, {})}), False)
        self.assertIs(is_flow(FAR, {START: (0, {"a": 7, "b": 1}), ENDED: (1, {"a": 3})}), False)

    def test_worths(self):
        self.assertTrue(is_same(flow_worth(market=WAIT, claim=DUE, flow=FLOW), Ratio(3)))
        self.assertEqual(flow_worth(WAIT, Claim({0: 4, 1: 6}, {"a": Ratio(1, 5), "b": -1}), PART), Ratio(23, 5))
        self.assertEqual(flow_worth(SWING, EVEN, {START: (1, {"a": 5, "b": 5})}), Ratio(5))
        self.assertEqual(flow_worth(WAIT, DUE, {START: (1, {})}), Ratio(0))

    def test_by_chance(self):
        chance = random.Random(351)
        verdicts = []
        for _ in range(60):
            market = random_market(chance)
            claim, other = random_claim(chance, market), random_claim(chance, market)
            told, flow = Told(market), greatest_flow(market, claim)
            self.assertEqual(flow is None, cover(market, claim) is None)
            if flow is None:
                continue
            self.assertEqual(list(flow), sorted(flow))
            self.assertTrue(told.is_folded_flow(flow))
            self.assertIs(is_flow(market, flow), True)
            self.assertEqual(flow_worth(market, claim, flow), cover(market, claim))
            self.assertEqual(fraction(flow_worth(market, other, flow)), told.worth(other, flow))
            self.assertTrue(all(isinstance(part, Ratio) for leaves, weights in flow.values()
                                for part in [leaves, *weights.values()]))
            self.assertIs(is_tight(market, claim, folded_plan(market, claim), flow), True)
            for _ in range(6):
                spoilt = spoiled(chance, flow, [*told.leads, *"abcd"])
                right = told.is_folded_flow(spoilt)
                self.assertIs(is_flow(market, spoilt), right, (market, spoilt))
                verdicts.append(right)
                self.assertIs(is_flow(market, made_odd(chance, flow)), False)
        self.assertGreater(verdicts.count(False), 100)

    def test_no_flow_is_worth_more_than_a_plan_has(self):
        chance = random.Random(352)
        for _ in range(40):
            market = random_market(chance)
            claim, other = random_claim(chance, market), random_claim(chance, market)
            flow, least = greatest_flow(market, other), cover(market, claim)
            if flow is not None and least is not None:
                self.assertTrue(flow_worth(market, claim, flow).is_at_most(least))


class Greatest(unittest.TestCase):
    def test_examples(self):
        self.assertTrue(is_same(greatest_flow(market=WAIT, claim=DUE), TOLD_FLOW))
        self.assertTrue(is_same(greatest_flow(MUTE, DUE), {((0, 1), 0): (Ratio(1), {})}))
        self.assertEqual(greatest_flow(SWING, EVEN), {START: (Ratio(1), {})})
        self.assertIsNone(greatest_flow(SWING, Claim({}, {"a": 1})))
        self.assertIsNone(greatest_flow(FAR, Claim({}, {"a": 1})))

    def test_at_below_and_above_the_cover(self):
        self.assertEqual(flow_above(market=WAIT, claim=DUE, number=Ratio(29, 10)), TOLD_FLOW)
        self.assertEqual([flow_above(WAIT, DUE, number) for number in (3, Ratio(31, 10), 99)], [None] * 3)
        self.assertEqual(flow_above(WAIT, DUE, -1), TOLD_FLOW)
        self.assertIsNone(flow_above(SWING, Claim({}, {"a": 1}), -1))
        chance = random.Random(353)
        for _ in range(30):
            market = random_market(chance)
            claim = random_claim(chance, market)
            least = cover(market, claim)
            if least is not None:
                self.assertIsNone(flow_above(market, claim, least))
                below = least - Ratio(1, 1000)
                flow = flow_above(market, claim, below)
                self.assertTrue(is_flow(market, flow) and below.is_below(flow_worth(market, claim, flow)))


class Tight(unittest.TestCase):
    def test_examples(self):
        self.assertIs(is_tight(market=WAIT, claim=DUE, plan=PLAN, flow=FLOW), True)
        self.assertIs(is_tight(WAIT, DUE, {START: (4, [0]), ENDED: (3, [0])}, FLOW), False)
        self.assertIs(is_tight(WAIT, DUE, {START: (3, [0]), ENDED: (2, [0])}, FLOW), False)
        self.assertIs(is_tight(WAIT, DUE, PLAN, PART), False)
        self.assertIs(is_tight(WAIT, DUE, FLOW, PLAN), False)
        for value in WRONG:
            self.assertIs(is_tight(WAIT, DUE, PLAN, value), False)
            self.assertIs(is_tight(WAIT, DUE, value, FLOW), False)
            self.assertIs(is_tight(WAIT, DUE, value, value), False)


class AtLength(unittest.TestCase):
    def test_examples(self):
        quarter = Ratio(1, 4)
        self.assertTrue(is_same(flow_at_length(market=WAIT, flow=FLOW, many=2), {
            (START, 0): (quarter, {}), (START, 1): (Ratio(0), {"a": quarter, "b": quarter}),
            (START, 2): (Ratio(0), {"a": HALF, "b": HALF}), (ENDED, 0): (quarter, {}), (ENDED, 1): (HALF, {})}))
        self.assertTrue(is_same(flow_at_length(WAIT, PART, 1), {
            (START, 0): (Ratio(1, 3), {}), (START, 1): (Ratio(1, 3), {"a": Ratio(1, 3), "b": Ratio(1, 3)}),
            (ENDED, 0): (Ratio(1, 3), {})}))
        self.assertTrue(is_same(flow_at_length(WAIT, FLOW, 0), {(START, 0): (Ratio(1), {})}))
        unsorted = {ENDED: (1, {}), START: (0, {"b": 1, "a": 1})}
        self.assertTrue(is_same(flow_at_length(WAIT, unsorted, 2), flow_at_length(WAIT, FLOW, 2)))
        self.assertTrue(is_same([on_the_way(WAIT, FLOW, many) for many in range(4)], [Ratio(1), HALF, quarter, Ratio(1, 8)]))
        self.assertTrue(is_same(on_the_way(market=WAIT, flow=PART, many=1), Ratio(2, 9)))
        self.assertTrue(is_same(on_the_way(WAIT, {START: (1, {})}, 0), Ratio(0)))
        self.assertTrue(is_same(on_the_way(WAIT, {START: (1, {})}, 5), Ratio(0)))

    def test_by_chance(self):
        chance = random.Random(354)
        for _ in range(40):
            market = random_market(chance)
            claim, told = random_claim(chance, market), Told(market)
            flow = greatest_flow(market, claim)
            if flow is None:
                continue
            least = covers(market, claim)
            apart = max(fraction(least[stand]) - told.floor(claim, stand) for stand in least)
            rest = [fraction(on_the_way(market, flow, many)) for many in range(8)]
            self.assertTrue(all(one >= two >= 0 for one, two in zip(rest, rest[1:])))
            for many in (0, 1, 2, 5, 12):
                value = flow_at_length(market, flow, many)
                self.assertEqual(list(value), sorted(value))
                self.assertTrue(told.is_length_flow(many, value))
                self.assertIs(is_length_flow(market, many, value), True)
                for (stand, left), (leaves, weights) in value.items():
                    whole = fraction(leaves) + sum(map(fraction, weights.values()))
                    base = fraction(flow[stand][0]) + sum(map(fraction, flow[stand][1].values()))
                    self.assertGreater(whole, 0)
                    if left:
                        self.assertEqual(fraction(leaves) * base, fraction(flow[stand][0]) * whole)
                        self.assertEqual({letter: fraction(weights[letter]) * base for letter in weights},
                                         {letter: fraction(flow[stand][1][letter]) * whole for letter in flow[stand][1]})
                gap = apart * fraction(on_the_way(market, flow, many))
                self.assertLessEqual(fraction(least[told.first]) - fraction(need(market, claim, many)), gap)
                self.assertLessEqual(fraction(least[told.first]) - fraction(worth(market, claim, value)), gap)

    def test_what_comes_together_again(self):
        net = Market(Machine(2, [(0, "a", 1), (0, "b", 1), (1, "a", 0)], [0]), "ab", Board([[]]))
        flow = {START: (HALF, {"a": HALF, "b": HALF}), ENDED: (HALF, {"a": HALF})}
        self.assertIs(is_flow(net, flow), True)
        self.assertTrue(is_same(on_the_way(net, flow, 2), Ratio(2, 9)))
        self.assertTrue(is_same(flow_at_length(net, flow, 1), {
            (START, 1): (Ratio(1, 3), {"a": Ratio(1, 3), "b": Ratio(1, 3)}), (ENDED, 0): (Ratio(2, 3), {})}))


class Errors(unittest.TestCase):
    def test_the_first_error_of_the_sequence(self):
        for value in [*ODD_VALUES, "1"]:
            self.assertEqual(raised(flow_above, WAIT, Claim({5: 1}), value), ("InvalidNumber", value))
        for claim, error in OTHER_CLAIMS:
            self.assertEqual(raised(greatest_flow, WAIT, claim), error)
            self.assertEqual(raised(flow_above, WAIT, claim, 1), error)
            self.assertEqual(raised(flow_worth, WAIT, claim, None), error)
            self.assertEqual(raised(is_tight, WAIT, claim, None, None), error)
        for call in (flow_at_length, on_the_way):
            for value in WRONG:
                self.assertEqual(raised(call, WAIT, value, None), ("InvalidFlow", value))
            for value in [*ODD_VALUES, -1, Ratio(1), "1"]:
                self.assertEqual(raised(call, WAIT, FLOW, value), ("InvalidMany", value))
            self.assertEqual(raised(call, WAIT, FLOW, 13), ("TooMany", "letters", 12))

    def test_what_is_passed_does_not_change(self):
        flow = {START: (0, {"b": 1, "a": 1}), ENDED: (1, {})}
        flow_at_length(WAIT, flow, 2)[START, 2][1].clear()
        on_the_way(WAIT, flow, 2)
        self.assertTrue(is_same(flow, {START: (0, {"b": 1, "a": 1}), ENDED: (1, {})}))
        greatest_flow(WAIT, DUE)[START][1].clear()
        self.assertEqual(greatest_flow(WAIT, DUE), TOLD_FLOW)


if __name__ == "__main__":
    unittest.main()
