import random
import unittest

from helper import ODD_VALUES, fraction, is_same, raised
from judges import Told, ToldWindow, made_odd, owing_stands, random_board, random_claim, random_market, spoiled
from machinery import random_machine, random_number
from test_lengths import DUE, ENDED, HALF, OTHER_CLAIMS, START, WAIT

from heardquotes.boards import Board
from heardquotes.claims import Claim
from heardquotes.folded import cover
from heardquotes.lengths import need
from heardquotes.machines import Machine
from heardquotes.markets import Market
from heardquotes.ratios import Ratio
from heardquotes.window import is_window_flow, is_window_plan, told_stands, told_then, window_cover, window_flow
from heardquotes.window import window_need, window_plan, window_worth

LATE = Machine(5, [(0, "z", 1), (0, "z", 2), (1, "x", 3), (1, "y", 4), (2, "x", 4), (2, "y", 3)], [0])
BOARD = Board([[({"x": 1, "y": 0}, HALF, HALF)]])
MARKET, CLAIM = Market(LATE, "xyz", BOARD), Claim({3: 10})
FIRST, ONE, TWO, THREE, FOUR = [((place,), 0) for place in range(5)]
PLAN = {FIRST: (5, [0]), ONE: (5, [10]), TWO: (5, [-10]), THREE: (10, [7]), FOUR: (0, [-7])}
FLOW = {FIRST: (0, {("z", 1): HALF, ("z", 2): HALF}), ONE: (0, {("x", 3): Ratio(1, 4), ("y", 4): Ratio(1, 4)}),
        TWO: (0, {("x", 4): Ratio(1, 4), ("y", 3): Ratio(1, 4)}), THREE: (HALF, {}), FOUR: (HALF, {})}
# From 0 a leads to 1 or 2; silent steps from 1 to 3, and by b, if it is not heard, from 2 to 0.
NET = Machine(4, [(0, "a", 1), (0, "a", 2), (1, "", 3), (2, "b", 0), (3, "a", 3), (3, "c", 1)], [0, 2])
# Goes on by a with 1 more for ever, or comes to where each a costs 1; heard alone, both may be.
LOOPS = Machine(3, [(0, "a", 1), (0, "a", 2), (1, "a", 1), (2, "b", 2)], [0])


def small_market(chance):
    """Often a letter leads to several places."""
    while True:
        machine = random_machine(chance, "ab", 4, 9)
        heard = "".join(letter for letter in machine.letters if chance.random() < 0.9)
        board = random_board(chance, heard, 2, 2)
        if len(machine.begins()) <= 2 and len(machine.steps()) > 3 and raised(Market, machine, heard, board) is None:
            return Market(machine, heard, board)


def hidden_market(chance):
    """By z, or unheard, to places of which x and y, which are quoted, lead to other ones each."""
    steps = {(0, chance.choice("zz") if chance.random() < 0.8 else "", place) for place in (1, 2)}
    steps |= {(place, letter, chance.randint(3, 5)) for place in (1, 2) for letter in "xy"} | {(3, "z", 0)}
    board = Board([[({"x": 1, "y": 0}, Ratio(1, chance.randint(2, 4)), HALF)]])
    return Market(Machine(6, sorted(steps | {(5, "z", 4)}), [0]), "xyz", board)


def window_cases(chance, rounds, low=-2, high=1):
    for _ in range(rounds):
        if chance.random() < 0.6:
            market = small_market(chance)
            yield market, random_claim(chance, market, low, high), ToldWindow(market)
        else:
            market = hidden_market(chance)
            tolls = {"z": random_number(chance, low, high)} if chance.random() < 0.3 else {}
            yield market, Claim({place: chance.randint(0, 9) for place in (3, 4, 5)}, tolls), ToldWindow(market)


class ToldStands(unittest.TestCase):
    def test_examples(self):
        self.assertTrue(is_same(told_then(market=MARKET, stand=FIRST), {"z": {1: ONE, 2: TWO}}))
        self.assertTrue(is_same(told_then(MARKET, ONE), {"x": {3: THREE}, "y": {4: FOUR}}))
        self.assertEqual(told_then(MARKET, THREE), {})
        self.assertTrue(is_same(told_stands(market=MARKET), [FIRST, ONE, TWO, THREE, FOUR]))

    def test_silent_and_unheard_steps_behind_the_told_place(self):
        market = Market(NET, "ac", Board([[], []], {(0, "a"): 1, (1, "c"): 0}))
        first = ((0, 2), 0)
        self.assertTrue(is_same(told_then(market, first), {"a": {1: ((1, 3), 1), 2: ((0, 2), 1)}}))
        self.assertTrue(is_same(told_then(market, ((1, 3), 1)), {"a": {3: ((3,), 1)}, "c": {1: ((1, 3), 0)}}))
        self.assertTrue(is_same(told_stands(market), [((0, 2), 0), ((0, 2), 1), ((1, 3), 0), ((1, 3), 1), ((3,), 1)]))
        heard = Market(NET, "abc", Board([[]]))
        self.assertTrue(is_same(told_then(heard, ((0, 2), 0)), {"a": {1: ((1, 3), 0), 2: ((2,), 0)}, "b": {0: ((0,), 0)}}))

    def test_the_first_stand_need_not_be_told(self):
        market = Market(Machine(2, [(0, "a", 0), (1, "a", 1)], [0, 1]), "a", Board([[]]))
        self.assertEqual(told_stands(market), [((0,), 0), ((0, 1), 0), ((1,), 0)])
        self.assertEqual(told_then(market, ((0, 1), 0)), {"a": {0: ((0,), 0), 1: ((1,), 0)}})
        mute = Market(NET, "", Board([[]]))
        self.assertEqual(told_stands(mute), [((0, 1, 2, 3), 0)])
        self.assertEqual(told_then(mute, ((0, 1, 2, 3), 0)), {})

    def test_by_chance(self):
        chance = random.Random(701)
        for market, _, told in window_cases(chance, 60):
            self.assertEqual(told_stands(market), sorted(told.leads))
            for stand, leads in told.leads.items():
                right = {}
                for letter, place in sorted(leads):
                    right.setdefault(letter, {})[place] = leads[letter, place]
                self.assertTrue(is_same(told_then(market, stand), right))

    def test_stands_that_are_none(self):
        for value in [*ODD_VALUES, ((0, 1), 0), ((False,), 0), ((0,), False), ((0,), 1), [(0,), 0], ((1, 2), 0), ((7,), 0), 0]:
            self.assertEqual(raised(told_then, MARKET, value), ("InvalidStand", value))

    def test_what_is_told_may_be_changed(self):
        told_then(MARKET, FIRST)["z"].clear()
        told_stands(MARKET).clear()
        self.assertEqual(told_then(MARKET, FIRST), {"z": {1: ONE, 2: TWO}})


class Needs(unittest.TestCase):
    def test_examples(self):
        self.assertTrue(is_same([window_need(MARKET, CLAIM, many) for many in range(4)], [Ratio(0), Ratio(0), Ratio(5), Ratio(5)]))
        self.assertEqual(window_need(market=WAIT, claim=DUE, many=12), need(WAIT, DUE, 12))
        self.assertEqual([window_need(WAIT, DUE, many) for many in range(13)], [need(WAIT, DUE, many) for many in range(13)])

    def test_the_greatest_of_the_places(self):
        self.assertEqual(window_need(MARKET, Claim({1: 3, 2: 4, 3: 1}), 1), Ratio(4))
        self.assertEqual(window_need(MARKET, Claim({1: 3, 2: 4, 3: 9}, {"z": -1}), 2), Ratio(7, 2))

    def test_by_chance(self):
        chance = random.Random(702)
        below = 0
        for market, claim, told in window_cases(chance, 120):
            many = chance.randint(0, 4)
            table = told.needs(claim, many)
            for fewer in range(many + 1):
                least = window_need(market, claim, fewer)
                self.assertEqual(fraction(least), table[fewer][told.first])
                self.assertTrue(least.is_at_most(need(market, claim, fewer)))
                below += least.is_below(need(market, claim, fewer))
        self.assertGreater(below, 3)

    def test_errors(self):
        for value in [*ODD_VALUES, -1, Ratio(1), "1"]:
            self.assertEqual(raised(window_need, WAIT, Claim({5: 1}), value), ("InvalidMany", value))
        for claim, error in OTHER_CLAIMS:
            self.assertEqual(raised(window_need, WAIT, claim, 13), error)
        self.assertEqual(raised(window_need, WAIT, DUE, 13), ("TooMany", "letters", 12))


class Covers(unittest.TestCase):
    def test_examples(self):
        self.assertTrue(is_same(window_cover(market=MARKET, claim=CLAIM), Ratio(5)))
        self.assertEqual(cover(MARKET, CLAIM), Ratio(10))
        self.assertEqual(window_cover(WAIT, DUE), Ratio(3))
        self.assertEqual(window_cover(MARKET, Claim({3: 10}, {"z": -2, "x": 1})), Ratio(7, 2))

    def test_rings_that_owe(self):
        market, claim = Market(LOOPS, "ab", Board([[({"b": 1, "a": 0}, HALF, HALF)]])), Claim({}, {"a": 1, "b": -1})
        self.assertEqual(window_cover(market, claim), Ratio(0))
        free = Market(LOOPS, "ab", Board([[]]))
        self.assertIsNone(window_cover(free, claim))
        self.assertIsNone(window_plan(free, claim))
        self.assertIsNone(window_flow(free, claim))
        self.assertEqual(window_cover(free, Claim({1: 5}, {"a": -1})), Ratio(4))
        self.assertIsNone(window_cover(free, Claim({1: 5}, {"a": -2, "b": Ratio(1, 999)})))

    def test_by_chance(self):
        chance = random.Random(703)
        none = below = 0
        for market, claim, told in window_cases(chance, 160, -1, 1):
            least = window_cover(market, claim)
            if least is None:
                none += 1
                self.assertIsNone(window_plan(market, claim))
                self.assertIsNone(window_flow(market, claim))
                continue
            plan, flow = window_plan(market, claim), window_flow(market, claim)
            self.assertEqual((list(plan), list(flow)), (sorted(told.leads), sorted(flow)))
            self.assertEqual(plan[told.first][0], least)
            self.assertTrue(told.is_folded_plan(claim, plan))
            self.assertTrue(told.is_folded_flow(flow))
            self.assertEqual(told.worth(claim, flow), fraction(least))
            self.assertIs(is_window_plan(market, claim, plan), True)
            self.assertIs(is_window_flow(market, claim, flow), True)
            self.assertTrue(is_same(window_worth(market, claim, flow), least))
            self.assertTrue(all(isinstance(part, Ratio) for leaves, weights in flow.values() for part in [leaves, *weights.values()]))
            self.assertTrue(all(isinstance(part, Ratio) for coins, position in plan.values() for part in [coins, *position]))
            self.assertTrue(window_need(market, claim, 5).is_at_most(least))
            without = cover(market, claim)
            self.assertTrue(without is None or least.is_at_most(without))
            below += without is None or least.is_below(without)
        self.assertGreater(none, 5)
        self.assertGreater(below, 3)

    def test_none_exactly_if_a_ring_owes(self):
        chance = random.Random(704)
        seen = []
        for _ in range(60):
            market = random_market(chance, most_places=3, most_steps=5, most_quotes=2, most_stands=4)
            claim, told = random_claim(chance, market, -1, 2), ToldWindow(market)
            if len(told.leads) > 4 or max(len(leads) for leads in told.leads.values()) > 4:
                continue
            seen.append(window_cover(market, claim) is None)
            self.assertEqual(seen[-1], bool(owing_stands(told, claim)), (market, claim))
        self.assertGreater(min(seen.count(True), seen.count(False)), 5)

    def test_a_bell_more_needs_no_more(self):
        chance = random.Random(705)
        for _ in range(40):
            market = small_market(chance)
            fewer = [letter for letter in market.heard if letter not in market.board.letters]
            if not fewer:
                continue
            dues = {place: chance.randint(0, 5) for place in range(market.machine.places)}
            claim, old = Claim(dues), market.with_heard(market.heard.replace(fewer[0], ""))
            all_heard = market.with_heard(market.machine.letters) if raised(
                market.with_heard, market.machine.letters) is None else market
            ladder = [(window_cover, all_heard), (window_cover, market), (window_cover, old), (cover, old)]
            told = [fraction(ask(some, claim)) for ask, some in ladder]
            self.assertEqual(told, sorted(told))
            self.assertLessEqual(fraction(window_cover(all_heard, claim)), fraction(cover(all_heard, claim)))
            for many in (1, 2, 4):
                self.assertTrue(window_need(market, claim, many).is_at_most(window_need(old, claim, many)))


class Papers(unittest.TestCase):
    def test_plans(self):
        for value in (PLAN, {**PLAN, FIRST: (5, [99])}, {**PLAN, FIRST: (Ratio(11, 2), (-3,))}, window_plan(MARKET, CLAIM)):
            self.assertIs(is_window_plan(market=MARKET, claim=CLAIM, value=value), True)
        short = {stand: PLAN[stand] for stand in PLAN if stand != FOUR}
        wrong = [short, {**PLAN, ((3, 4), 0): (10, [0])}, {**PLAN, ((1, 2), 0): (10, [0])}, {**PLAN, FIRST: (Ratio(49, 10), [0])},
                 {**PLAN, ONE: (5, [9])}, {**PLAN, TWO: (5, [10])}, {**PLAN, THREE: (9, [0])}, {**PLAN, FIRST: (5, [])},
                 {**PLAN, FIRST: [5, [0]]}, {**PLAN, FIRST: (True, [0])}, {**PLAN, FIRST: (5, [False])}, {**PLAN, FOUR: (0, [0, 0])},
                 FLOW, list(PLAN.items())]
        for value in [*ODD_VALUES, *wrong]:
            self.assertIs(is_window_plan(MARKET, CLAIM, value), False, value)

    def test_a_place_more(self):
        """What is enough where just one place may be told is not enough where another one may be, too."""
        alone = Market(LATE.without_step((0, "z", 2)), "xyz", BOARD)
        plan = {FIRST: (5, [0]), ONE: (5, [10]), THREE: (10, [0]), FOUR: (0, [0])}
        self.assertIs(is_window_plan(alone, CLAIM, plan), True)
        self.assertIs(is_window_plan(MARKET, CLAIM, plan), False)
        self.assertIs(is_window_plan(alone, CLAIM, PLAN), False)
        self.assertIs(is_window_plan(MARKET, Claim({1: 5, 2: 6, 3: 10}), {**PLAN, TWO: (6, [-10])}), False)
        self.assertIs(is_window_plan(MARKET, Claim({1: 5, 2: 6, 3: 10}), {**PLAN, FIRST: (6, [0]), TWO: (6, [-10])}), True)

    def test_flows(self):
        only = {FIRST: (0, {("z", 2): 1}), TWO: (Ratio(1, 3), {("y", 3): Ratio(1, 3), ("x", 4): Ratio(1, 3)}), THREE: (Ratio(1, 3), {}),
                FOUR: (Ratio(1, 3), {})}
        for value in (FLOW, only, {FIRST: (1, {})}, window_flow(MARKET, CLAIM)):
            self.assertIs(is_window_flow(market=MARKET, claim=CLAIM, value=value), True)
        less = {FIRST: (0, {("z", 1): 1}), ONE: (0, {("x", 3): 1}), THREE: (1, {})}
        wrong = [less, {**FLOW, FIRST: (0, {("z", 1): 1})}, {**FLOW, FIRST: (0, {("z", 1): HALF, ("z", 2): HALF, ("z", 3): 0})},
                 {FIRST: (1, {("z", 1): 0})}, {FIRST: (0, {("z", 1): 1}), ONE: (1, {("x", 3): 0, ("y", 4): 0})},
                 {FIRST: (0, {"z": 1}), ONE: (1, {})}, {FIRST: (0, {("z", True): 1}), ONE: (1, {})}, {FIRST: (0, {("z", 3): 1}), THREE: (1, {})},
                 {FIRST: (0, {("z",): 1}), ONE: (1, {})}, {FIRST: (0, {("z", 1, 0): 1}), ONE: (1, {})}, {FIRST: (0, {(1, "z"): 1}), ONE: (1, {})},
                 {FIRST: (0, {("z", 1): 1}), ONE: (2, {})}, {**FLOW, THREE: (1, {})}, {stand: FLOW[stand] for stand in FLOW if stand != FOUR},
                 {FIRST: (1, {}), ONE: (0, {})}, PLAN, {FIRST: (0, {("z", 1): True}), ONE: (1, {})}, {FIRST: [1, {}]},
                 {FIRST: (2, {("z", 1): -1}), ONE: (-1, {})}, {FIRST: (0, {("z", None): 1}), ONE: (1, {})}]
        for value in [*ODD_VALUES, *wrong]:
            self.assertIs(is_window_flow(MARKET, CLAIM, value), False, value)
            self.assertEqual(raised(window_worth, MARKET, CLAIM, value), ("InvalidFlow", value))

    def test_fair_over_the_places_of_a_letter(self):
        """The weights of a letter are put together: the places may have unlike ones."""
        net = Machine(4, [(0, "a", 1), (0, "a", 2), (0, "b", 3)], [0])
        market = Market(net, "ab", Board([[({"a": 1, "b": 0}, HALF, HALF)]]))
        ends = {((place,), 0): part for place, part in ((1, Ratio(1, 6)), (2, Ratio(1, 3)), (3, HALF))}
        flow = {FIRST: (0, {("a", 1): Ratio(1, 6), ("a", 2): Ratio(1, 3), ("b", 3): HALF}), **{stand: (ends[stand], {}) for stand in ends}}
        self.assertIs(is_window_flow(market, Claim({}), flow), True)
        self.assertEqual(window_worth(market, Claim({1: 6, 2: 3}, {"a": 1, "b": 2}), flow), Ratio(7, 2))
        uneven = {FIRST: (0, {("a", 1): HALF, ("a", 2): Ratio(1, 4), ("b", 3): Ratio(1, 4)}),
                  **{((place,), 0): (part, {}) for place, part in ((1, HALF), (2, Ratio(1, 4)), (3, Ratio(1, 4)))}}
        self.assertIs(is_window_flow(market, Claim({}), uneven), False)
        self.assertEqual(window_cover(market, Claim({1: 6, 2: 8})), Ratio(4))

    def test_worths(self):
        self.assertTrue(is_same(window_worth(market=MARKET, claim=CLAIM, flow=FLOW), Ratio(5)))
        self.assertEqual(window_worth(MARKET, Claim({0: 2, 3: 10, 4: 4}, {"z": 1, "x": -1}), FLOW), Ratio(15, 2))
        self.assertEqual(window_worth(MARKET, Claim({0: 2}), {FIRST: (1, {})}), Ratio(2))

    def test_wrong_by_one_thing(self):
        chance = random.Random(706)
        verdicts = []
        for market, claim, told in window_cases(chance, 60):
            if window_cover(market, claim) is None:
                continue
            plan, flow = window_plan(market, claim), window_flow(market, claim)
            ways = sorted({way for leads in told.leads.values() for way in leads})
            for _ in range(5):
                other = spoiled(chance, plan, list(Told(market).leads))
                right = told.is_folded_plan(claim, other)
                self.assertIs(is_window_plan(market, claim, other), right, (market, claim, other))
                spoilt = spoiled(chance, flow, [*told.leads, *ways])
                valid = told.is_folded_flow(spoilt)
                self.assertIs(is_window_flow(market, claim, spoilt), valid, (market, spoilt))
                verdicts += [right, valid]
                if valid:
                    self.assertEqual(fraction(window_worth(market, claim, spoilt)), told.worth(claim, spoilt))
                self.assertIs(is_window_plan(market, claim, made_odd(chance, plan)), False)
                self.assertIs(is_window_flow(market, claim, made_odd(chance, flow)), False)
        self.assertGreater(verdicts.count(True), 20)
        self.assertGreater(verdicts.count(False), 100)

    def test_claims_that_do_not_fit(self):
        for claim, error in OTHER_CLAIMS:
            for call in (window_cover, window_plan, window_flow):
                self.assertEqual(raised(call, WAIT, claim), error)
            for call in (is_window_plan, is_window_flow, window_worth):
                self.assertEqual(raised(call, WAIT, claim, None), error)
        self.assertEqual(raised(window_worth, WAIT, DUE, {START: (0, {"b": 1}), ENDED: (1, {})}),
                         ("InvalidFlow", {START: (0, {"b": 1}), ENDED: (1, {})}))

    def test_what_is_passed_or_told_may_be_changed(self):
        before = {stand: (leaves, dict(weights)) for stand, (leaves, weights) in FLOW.items()}
        window_worth(MARKET, CLAIM, FLOW)
        window_flow(MARKET, CLAIM)[FIRST][1].clear()
        window_plan(MARKET, CLAIM)[ONE][1].clear()
        self.assertTrue(is_same(FLOW, before))
        self.assertEqual(window_worth(MARKET, CLAIM, window_flow(MARKET, CLAIM)), Ratio(5))
        self.assertIs(is_window_plan(MARKET, CLAIM, window_plan(MARKET, CLAIM)), True)


if __name__ == "__main__":
    unittest.main()
