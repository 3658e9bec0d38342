import random
import unittest
from fractions import Fraction

from helper import ODD_VALUES, fraction, is_same, raised, ratio
from judges import Told, made_odd, random_claim, random_market, spoiled
from test_markets import WRONG_STANDS

from heardquotes.boards import Board
from heardquotes.claims import Claim
from heardquotes.lengths import first_lack, is_lack, is_length_flow, is_length_plan, lack, length_flow, length_plan
from heardquotes.lengths import need, need_from, needs, worth
from heardquotes.machines import Machine
from heardquotes.markets import Market, stands
from heardquotes.ratios import Ratio

HALF = Ratio(1, 2)
# One waits at 0 while a is heard, and comes by b to 1, where 3 is due.
DOORS = Machine(2, [(0, "a", 0), (0, "b", 1)], [0])
WAIT = Market(DOORS, "ab", Board([[({"a": 0, "b": 1}, HALF, HALF)]]))
DUE = Claim({1: 3})
START, ENDED = ((0,), 0), ((1,), 0)
QUIET = Market(DOORS, "ab", Board([[]]))
MUTE = Market(DOORS, "", Board([[]]))
PLAN = {(START, 2): (Ratio(9, 4), [Ratio(3, 2)]), (START, 1): (Ratio(3, 2), [3]), (START, 0): (0, [0]),
        (ENDED, 1): (3, [0]), (ENDED, 0): (3, [0])}
FLOW = {(START, 2): (0, {"a": HALF, "b": HALF}), (START, 1): (0, {"a": Ratio(1, 4), "b": Ratio(1, 4)}),
        (START, 0): (Ratio(1, 4), {}), (ENDED, 1): (HALF, {}), (ENDED, 0): (Ratio(1, 4), {})}
TOLD_FLOW = {key: (Ratio.total([FLOW[key][0]]), FLOW[key][1]) for key in sorted(FLOW)}
OTHER_CLAIMS = [(Claim({5: 1, 3: 2}, {"z": 1}), ("UnknownPlace", 3)), (Claim({1: 1}, {"d": 1, "c": 2}), ("UnheardLetter", "c")),
                (Claim({2: 1}), ("UnknownPlace", 2))]


class Needs(unittest.TestCase):
    def test_examples(self):
        self.assertTrue(is_same(needs(market=WAIT, claim=DUE, many=4),
                                [Ratio(0), Ratio(3, 2), Ratio(9, 4), Ratio(21, 8), Ratio(45, 16)]))
        self.assertTrue(is_same(need(market=WAIT, claim=DUE, many=12), Ratio(3) - Ratio(3, 4096)))
        self.assertTrue(is_same(need_from(market=WAIT, claim=DUE, stand=ENDED, many=5), Ratio(3)))
        self.assertEqual(need_from(WAIT, DUE, START, 2), Ratio(9, 4))
        self.assertTrue(is_same(needs(QUIET, DUE, 2), [Ratio(0), Ratio(3), Ratio(3)]))

    def test_nothing_is_heard(self):
        self.assertTrue(is_same(needs(MUTE, DUE, 3), [Ratio(3)] * 4))
        self.assertTrue(is_same(length_plan(MUTE, DUE, 2), {(((0, 1), 0), 2): (Ratio(3), [])}))
        self.assertTrue(is_same(length_flow(MUTE, DUE, 2), {(((0, 1), 0), 2): (Ratio(1), {})}))

    def test_tolls(self):
        self.assertTrue(is_same(needs(QUIET, Claim({1: 3}, {"a": 2}), 3), [Ratio(0), Ratio(3), Ratio(5), Ratio(7)]))
        self.assertTrue(is_same(needs(QUIET, Claim({1: 3}, {"a": -2, "b": -1}), 3), [Ratio(0)] + [Ratio(2)] * 3))
        self.assertTrue(is_same(needs(WAIT, Claim({1: 3}, {"a": 2, "b": -5}), 2), [Ratio(0), Ratio(0), Ratio(0)]))
        self.assertTrue(is_same(needs(WAIT, Claim({1: 3}, {"a": 2}), 2), [Ratio(0), Ratio(5, 2), Ratio(15, 4)]))

    def test_where_no_weights_are_fair(self):
        """A quote that always gains: nothing but the floor is needed, whatever comes."""
        sure = Market(DOORS, "ab", Board([[({"a": 1, "b": 1}, None, 0)]]))
        self.assertTrue(is_same(needs(sure, Claim({0: 1, 1: 90}), 2), [Ratio(1)] * 3))

    def test_by_chance(self):
        chance = random.Random(321)
        for _ in range(50):
            market = random_market(chance)
            claim, told = random_claim(chance, market), Told(market)
            many = chance.randint(0, 4)
            table = told.needs(claim, many)
            self.assertEqual([fraction(least) for least in needs(market, claim, many)],
                             [level[told.first] for level in table])
            self.assertEqual(fraction(need(market, claim, many)), table[many][told.first])
            for stand in stands(market):
                self.assertEqual(fraction(need_from(market, claim, stand, many)), table[many][stand])
            self.assertTrue(all(one <= two for one, two in zip(
                [level[told.first] for level in table], [level[told.first] for level in table[1:]])))

    def test_all_lengths_up_to_the_greatest(self):
        for many in range(13):
            self.assertTrue(is_length_plan(WAIT, DUE, need(WAIT, DUE, many), many, length_plan(WAIT, DUE, many)))
            self.assertTrue(is_length_flow(WAIT, many, length_flow(WAIT, DUE, many)))
            self.assertEqual(len(needs(WAIT, DUE, many)), many + 1)


class Plans(unittest.TestCase):
    def test_the_plan_of_the_needs(self):
        plan = length_plan(market=WAIT, claim=DUE, many=2)
        self.assertTrue(is_same([(key, plan[key][0]) for key in plan],
                                [((START, 0), Ratio(0)), ((START, 1), Ratio(3, 2)), ((START, 2), Ratio(9, 4)),
                                 ((ENDED, 0), Ratio(3)), ((ENDED, 1), Ratio(3))]))
        self.assertIs(is_length_plan(market=WAIT, claim=DUE, number=Ratio(9, 4), many=2, value=plan), True)
        self.assertIs(is_length_plan(WAIT, DUE, Ratio(9, 4), 2, PLAN), True)
        self.assertIs(is_length_plan(WAIT, DUE, 3, 2, {key: PLAN[key] for key in reversed(list(PLAN))}), True)
        self.assertIs(is_length_plan(WAIT, DUE, 2, 2, PLAN), False)
        self.assertIs(is_length_plan(WAIT, DUE, 3, 1, PLAN), False)
        self.assertIs(is_length_plan(WAIT, DUE, 3, 3, PLAN), False)
        self.assertIs(is_length_plan(WAIT, DUE, 0, 0, {(START, 0): (0, (Ratio(0),))}), True)

    def test_wrong_by_one_thing(self):
        wrong = [{**PLAN, (START, 2): (Ratio(9, 4), [2])}, {**PLAN, (START, 2): (2, [Ratio(3, 2)])},
                 {**PLAN, (ENDED, 0): (2, [0])}, {**PLAN, (ENDED, 0): (3, [1])}, {**PLAN, (START, 0): (0, [Ratio(1, 9)])},
                 {**PLAN, (ENDED, 2): (3, [0])}, {key: PLAN[key] for key in PLAN if key != (ENDED, 1)},
                 {**PLAN, (ENDED, 1): [3, [0]]}, {**PLAN, (ENDED, 1): (3, [0], [0])}, {**PLAN, (ENDED, 1): (3, [])},
                 {**PLAN, (ENDED, 1): (3, [False])}, {**PLAN, (START, 0): (False, [0])}, {**PLAN, 0: (0, [0])}]
        for value in [*ODD_VALUES, *wrong, {**PLAN, (((0,), False), 2): PLAN[START, 2], (START, 2): (0, [0])}]:
            self.assertIs(is_length_plan(WAIT, DUE, 9, 2, value), False, value)
        sold = Market(DOORS, "ab", Board([[({"a": 0, "b": 1}, HALF, None)]]))
        self.assertIs(is_length_plan(sold, DUE, 9, 2, {**PLAN, (START, 2): (9, [1])}), False)

    def test_false_is_no_letter_left(self):
        value = {(START, False): (0, [0])}
        self.assertIs(is_length_plan(WAIT, DUE, 0, 0, value), False)
        self.assertIs(is_length_plan(WAIT, DUE, 9, 1, {(START, True): (9, [3]), (START, 0): (0, [0]), (ENDED, 0): (3, [0])}),
                      False)

    def test_by_chance(self):
        chance = random.Random(322)
        verdicts = []
        for _ in range(60):
            market = random_market(chance)
            claim, told = random_claim(chance, market), Told(market)
            many = chance.randint(0, 4)
            least, plan = need(market, claim, many), length_plan(market, claim, many)
            self.assertEqual(list(plan), sorted(told.keys(many)))
            self.assertTrue(told.is_length_plan(claim, least, many, plan))
            self.assertIs(is_length_plan(market, claim, least, many, plan), True)
            table = told.needs(claim, many)
            for (stand, left), (coins, position) in plan.items():
                self.assertEqual(fraction(coins), table[left][stand])
                self.assertTrue(isinstance(coins, Ratio) and all(isinstance(part, Ratio) for part in position))
            self.assertIs(is_length_plan(market, claim, least - Ratio(1, 99), many, plan), False)
            for _ in range(6):
                other = spoiled(chance, plan, [(stand, left) for stand in told.leads for left in range(6)])
                right = told.is_length_plan(claim, least, many, other)
                self.assertIs(is_length_plan(market, claim, least, many, other), right, (market, claim, other))
                verdicts.append(right)
                self.assertIs(is_length_plan(market, claim, least, many, made_odd(chance, plan)), False)
        self.assertGreater(verdicts.count(True), 20)
        self.assertGreater(verdicts.count(False), 20)


class Flows(unittest.TestCase):
    def test_the_flow_of_the_needs(self):
        flow = length_flow(market=WAIT, claim=DUE, many=2)
        self.assertTrue(is_same(flow, TOLD_FLOW))
        self.assertIs(is_length_flow(market=WAIT, many=2, value=FLOW), True)
        self.assertEqual(worth(market=WAIT, claim=DUE, flow=FLOW), Ratio(9, 4))
        self.assertEqual(worth(WAIT, Claim({0: 4}, {"a": 1, "b": -1}), FLOW), Ratio(1))
        self.assertIs(is_length_flow(WAIT, 1, FLOW), False)
        self.assertIs(is_length_flow(WAIT, 3, FLOW), False)
        self.assertIs(is_length_flow(WAIT, 3, {(START, 3): (1, {})}), True)
        self.assertIs(is_length_flow(WAIT, 0, {(START, 0): (Ratio(1), {})}), True)

    def test_wrong_by_one_thing(self):
        quarter = Ratio(1, 4)
        wrong = [{**FLOW, (START, 2): (HALF, {"a": HALF, "b": HALF})}, {**FLOW, (START, 1): (HALF, {})},
                 {**FLOW, (ENDED, 1): (quarter, {})}, {**FLOW, (ENDED, 1): (-HALF, {})}, {**FLOW, (START, 0): (0, {"a": quarter})},
                 {**FLOW, (ENDED, 2): (0, {})}, {**FLOW, (START, 5): (1, {})}, {**FLOW, (START, 2): [0, {"a": HALF, "b": HALF}]},
                 {**FLOW, (START, 2): (0, {"a": HALF, "b": HALF, "c": 0})}, {**FLOW, (ENDED, 1): (HALF, [])},
                 {**FLOW, (ENDED, 1): (HALF, {"a": 0})}, {key: FLOW[key] for key in FLOW if key != (ENDED, 1)},
                 {**FLOW, (START, 2): (0, {"a": HALF, "b": Ratio(2, 3)})}, {(START, 2): (1, {"a": 0, "b": 0})},
                 {(START, 2): (0, {"a": 1}), (START, 1): (1, {})}, {(START, 2): (True, {})}, {(START, 2): (HALF, {})},
                 {(START, 2): (1, {}), (START, 1): (0, {})}, {(START, True): (1, {})},
                 {**FLOW, (START, 0): (0, {"a": Ratio(1, 8), "b": Ratio(1, 8)})}]
        for value in [*ODD_VALUES, *wrong]:
            self.assertIs(is_length_flow(WAIT, 2, value), False, value)
            self.assertIs(is_lack(WAIT, DUE, -5, 2, value), False, value)
        self.assertIs(is_length_flow(WAIT, 1, {(START, True): (1, {})}), False)

    def test_by_chance(self):
        chance = random.Random(323)
        verdicts = []
        for _ in range(60):
            market = random_market(chance)
            claim, told = random_claim(chance, market), Told(market)
            many = chance.randint(0, 4)
            flow = length_flow(market, claim, many)
            self.assertEqual(list(flow), sorted(flow))
            self.assertTrue(told.is_length_flow(many, flow))
            self.assertIs(is_length_flow(market, many, flow), True)
            self.assertEqual(worth(market, claim, flow), need(market, claim, many))
            self.assertEqual(told.length_worth(claim, flow), fraction(need(market, claim, many)))
            for leaves, weights in flow.values():
                self.assertTrue(all(isinstance(part, Ratio) for part in [leaves, *weights.values()]))
            other_claim = random_claim(chance, market)
            self.assertEqual(fraction(worth(market, other_claim, flow)), told.length_worth(other_claim, flow))
            for _ in range(6):
                other = spoiled(chance, flow, [*[(stand, left) for stand in told.leads for left in range(6)], *"abcd"])
                right = told.is_length_flow(many, other)
                self.assertIs(is_length_flow(market, many, other), right, (market, other))
                verdicts.append(right)
                self.assertIs(is_length_flow(market, many, made_odd(chance, flow)), False)
        self.assertGreater(verdicts.count(False), 100)

    def test_flows_that_split(self):
        """What leaves at one key and goes on at others, and comes together again, is a flow, too."""
        net = Machine(2, [(0, "a", 1), (0, "b", 1), (1, "a", 0)], [0])
        market = Market(net, "ab", Board([[]]))
        flow = {(START, 2): (HALF, {"a": Ratio(1, 4), "b": Ratio(1, 4)}), (ENDED, 1): (Ratio(1, 3), {"a": Ratio(1, 6)}),
                (START, 0): (Ratio(1, 6), {})}
        self.assertIs(is_length_flow(market, 2, flow), True)
        self.assertTrue(is_same(worth(market, Claim({1: 6}, {"a": 12}), flow), Ratio(7)))


class Lacks(unittest.TestCase):
    def test_at_above_and_below_the_need(self):
        chance = random.Random(324)
        for _ in range(40):
            market = random_market(chance)
            claim = random_claim(chance, market)
            many = chance.randint(0, 4)
            least = need(market, claim, many)
            self.assertIsNone(lack(market, claim, least, many))
            self.assertIsNone(lack(market, claim, least + 1, many))
            number = least - Ratio(1, 1000)
            flow = lack(market, claim, number, many)
            self.assertIs(is_lack(market, claim, number, many, flow), True)
            self.assertIs(is_lack(market, claim, least, many, flow), False)
            self.assertIs(is_length_plan(market, claim, number, many, length_plan(market, claim, many)), False)

    def test_examples(self):
        self.assertIs(is_lack(market=WAIT, claim=DUE, number=2, many=2, value=FLOW), True)
        self.assertIs(is_lack(WAIT, DUE, Ratio(9, 4), 2, FLOW), False)
        self.assertIs(is_lack(WAIT, DUE, 2, 3, FLOW), False)
        self.assertEqual([first_lack(WAIT, DUE, number, 12) for number in (-1, 0, 1, Ratio(3, 2), 2, Ratio(9, 4), 3)],
                         [0, 1, 1, 2, 2, 3, None])
        self.assertEqual(first_lack(market=WAIT, claim=DUE, number=Ratio(2999, 1000), most=12), 12)
        self.assertEqual(first_lack(WAIT, DUE, Ratio(2999, 1000), 11), None)
        self.assertEqual(lack(market=WAIT, claim=DUE, number=2, many=2), TOLD_FLOW)

    def test_first_lack_by_chance(self):
        chance = random.Random(325)
        for _ in range(30):
            market = random_market(chance)
            claim = random_claim(chance, market)
            number = ratio(Fraction(chance.randint(0, 12), 4))
            found = [many for many in range(5) if lack(market, claim, number, many) is not None]
            self.assertEqual(first_lack(market, claim, number, 4), found[0] if found else None)
            self.assertEqual(found, list(range(found[0], 5)) if found else [])


class Wrong(unittest.TestCase):
    def test_the_first_error_of_the_sequence(self):
        bad = Claim({5: 1})
        for value in [*ODD_VALUES, -1, Ratio(1), "1"]:
            for call in (need, needs, length_plan, length_flow):
                self.assertEqual(raised(call, WAIT, bad, value), ("InvalidMany", value))
            self.assertEqual(raised(need_from, WAIT, bad, START, value), ("InvalidMany", value))
            self.assertEqual(raised(is_length_flow, WAIT, value, None), ("InvalidMany", value))
            self.assertEqual(raised(lack, WAIT, bad, 1, value), ("InvalidMany", value))
            self.assertEqual(raised(first_lack, WAIT, bad, 1, value), ("InvalidMany", value))
            self.assertEqual(raised(is_lack, WAIT, bad, 1, value, None), ("InvalidMany", value))
            self.assertEqual(raised(is_length_plan, WAIT, bad, 1, value, None), ("InvalidMany", value))
        for value in [*ODD_VALUES, "1"]:
            for call, rest in ((lack, []), (first_lack, []), (is_lack, [None]), (is_length_plan, [None])):
                self.assertEqual(raised(call, WAIT, bad, value, None, *rest), ("InvalidNumber", value))
        for value in [value for value in WRONG_STANDS if value not in (((1,), 0), [])]:
            self.assertEqual(raised(need_from, WAIT, bad, value, None), ("InvalidStand", value), value)

    def test_claims_that_do_not_fit(self):
        for claim, error in OTHER_CLAIMS:
            for call in (need, needs, length_plan, length_flow):
                self.assertEqual(raised(call, WAIT, claim, 13), error)
            self.assertEqual(raised(need_from, WAIT, claim, START, 13), error)
            self.assertEqual(raised(lack, WAIT, claim, 1, 13), error)
            self.assertEqual(raised(first_lack, WAIT, claim, 1, 13), error)
            self.assertEqual(raised(is_lack, WAIT, claim, 1, 13, None), error)
            self.assertEqual(raised(is_length_plan, WAIT, claim, 1, 13, None), error)
            self.assertEqual(raised(worth, WAIT, claim, None), error)
        self.assertEqual(raised(need, MUTE, Claim({1: 1}, {"a": 1}), 1), ("UnheardLetter", "a"))
        self.assertEqual(need(MUTE, Claim({1: 1, 5: 0}, {"a": 0}), 1), Ratio(1))

    def test_too_many_letters(self):
        error = ("TooMany", "letters", 12)
        for many in (13, 999):
            for call in (need, needs, length_plan, length_flow):
                self.assertEqual(raised(call, WAIT, DUE, many), error)
            self.assertEqual(raised(need_from, WAIT, DUE, START, many), error)
            self.assertEqual(raised(is_length_flow, WAIT, many, None), error)
            self.assertEqual(raised(lack, WAIT, DUE, 1, many), error)
            self.assertEqual(raised(first_lack, WAIT, DUE, -1, many), error)
            self.assertEqual(raised(is_lack, WAIT, DUE, 1, many, None), error)
            self.assertEqual(raised(is_length_plan, WAIT, DUE, 1, many, None), error)

    def test_wrong_flows(self):
        for value in [*ODD_VALUES, PLAN, {(START, 13): (1, {})}, {(START, 2): (2, {})}, {START: (1, {})}, {((0,), 2): (1, {})},
                      {**FLOW, (START, 3): (0, {})}, {(ENDED, 2): (1, {})}, {(START, -1): (1, {})}, {(START, 0): (0, {"a": HALF, "b": HALF})},
                      {**FLOW, (START, None): (0, {})}, {**FLOW, (START,): (0, {})}, {**FLOW, (START, 1, 1): (0, {})}, {**FLOW, 5: (0, {})}]:
            self.assertEqual(raised(worth, WAIT, DUE, value), ("InvalidFlow", value))
        self.assertEqual(worth(WAIT, DUE, {(ENDED, 0): (1, {}), (START, 1): (0, {"b": HALF, "a": HALF}),
                                           (START, 0): (HALF, {}), (ENDED, 0): (HALF, {})}), Ratio(3, 2))
        self.assertEqual(worth(WAIT, DUE, {(START, 12): (1, {})}), Ratio(0))

    def test_what_was_returned_may_be_changed(self):
        plan, flow = length_plan(WAIT, DUE, 2), length_flow(WAIT, DUE, 2)
        plan[START, 2][1].append(1)
        plan.clear()
        flow[START, 2][1].clear()
        self.assertEqual(len(length_plan(WAIT, DUE, 2)), 5)
        self.assertEqual(length_flow(WAIT, DUE, 2), TOLD_FLOW)
        self.assertIs(is_length_flow(WAIT, 2, flow), False)


if __name__ == "__main__":
    unittest.main()
