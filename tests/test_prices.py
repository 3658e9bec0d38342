import random
import unittest
from fractions import Fraction

from helper import ODD_VALUES, fraction, is_same, raised, ratio
from judges import Told, random_board, random_claim
from machinery import random_machine, random_number
from test_bells import BOARD, CLAIM, DAY, all_sets, bell_cases
from test_lengths import OTHER_CLAIMS, WAIT
from test_markets import ring_board, ring_machine

from heardquotes.bells import bell_covers, bells_of
from heardquotes.boards import Board
from heardquotes.claims import Claim
from heardquotes.folded import cover, folded_plan, is_folded_plan
from heardquotes.lengths import is_length_flow, is_length_plan, length_flow, length_plan, need, worth
from heardquotes.machines import Machine
from heardquotes.markets import Market
from heardquotes.prices import cheapest, costs, folded_with_bell, with_bell, without_bell
from heardquotes.ratios import Ratio

HALF = Ratio(1, 2)
LOOP = Machine(1, [(0, "a", 0), (0, "b", 0)], [0])
OWING = Claim({0: 1}, {"a": 1})
SHOP = Market(DAY, "xy", BOARD)
FIRST, SECOND = ((0, 1, 2), 0), ((3, 4), 0)
FOLDED = {FIRST: (10, [0]), SECOND: (10, [0])}
PLAN = {(FIRST, 2): (10, [0]), (SECOND, 1): (10, [3])}


class Costs(unittest.TestCase):
    def test_examples(self):
        self.assertTrue(is_same(costs(machine=DAY, board=BOARD, claim=CLAIM, prices={"c": HALF, "b": 1}),
                                {"": Ratio(10), "b": Ratio(6), "bc": Ratio(13, 2), "c": Ratio(11, 2)}))
        self.assertTrue(is_same(costs(DAY, BOARD, Claim({3: 10}, {"b": 1, "c": 2}), {}), {"": Ratio(7)}))
        self.assertTrue(is_same(costs(LOOP, Board([[]]), OWING, {"b": 3}), {"": None, "b": None}))

    def test_the_cheapest(self):
        self.assertTrue(is_same(cheapest(machine=DAY, board=BOARD, claim=CLAIM, prices={"b": 1, "c": HALF}), (Ratio(11, 2), "c")))
        self.assertTrue(is_same(cheapest(DAY, BOARD, CLAIM, {"b": 9, "c": 9}), (Ratio(10), "")))
        self.assertIsNone(cheapest(LOOP, Board([[]]), OWING, {"b": 0}))

    def test_several_that_cost_the_same(self):
        self.assertTrue(is_same(cheapest(DAY, BOARD, CLAIM, {"b": 2, "c": 2}), (Ratio(7), "b")))
        self.assertTrue(is_same(cheapest(DAY, BOARD, CLAIM, {"b": 2, "c": 0}), (Ratio(5), "c")))
        self.assertTrue(is_same(cheapest(DAY, BOARD, CLAIM, {"b": 0, "c": 0}), (Ratio(5), "b")))
        self.assertTrue(is_same(cheapest(DAY, BOARD, CLAIM, {"b": 5, "c": 5}), (Ratio(10), "")))
        self.assertTrue(is_same(cheapest(DAY, BOARD, CLAIM, {"b": 5, "c": 6}), (Ratio(10), "")))
        free = Machine(1, [(0, letter, 0) for letter in "bcd"], [0])
        self.assertTrue(is_same(cheapest(free, Board([[]]), Claim({0: 2}), {"b": 0, "c": 0, "d": 0}), (Ratio(2), "")))

    def test_a_bell_that_does_not_help(self):
        """With c, and with b and c, it costs the same: the set with the fewest letters comes first."""
        machine = Machine(5, [(0, "b", 0), (0, "c", 1), (0, "", 2), (1, "x", 3), (1, "y", 4), (2, "x", 4), (2, "y", 3)], [0])
        self.assertEqual([str(cost) for cost in costs(machine, BOARD, CLAIM, {"b": 0, "c": 0}).values()], ["10", "10", "5", "5"])
        self.assertTrue(is_same(cheapest(machine, BOARD, CLAIM, {"b": 0, "c": 0}), (Ratio(5), "c")))

    def test_sets_without_a_cover(self):
        """The ring that owes is parted from the begin where the bell is heard and where not alike."""
        chance = random.Random(711)
        seen = 0
        for machine, board, claim in bell_cases(chance, 60):
            bells = bells_of(machine, board, claim)
            prices = {bell: random_number(chance, 0, 3) for bell in bells}
            covers = bell_covers(machine, board, claim)
            right = {some: None if covers[some] is None else ratio(
                fraction(covers[some]) + sum(fraction(prices[bell]) for bell in some)) for some in all_sets(bells)}
            self.assertTrue(is_same(costs(machine, board, claim, prices), right))
            ranked = sorted((fraction(cost), len(some), some) for some, cost in right.items() if cost is not None)
            best = (ratio(ranked[0][0]), ranked[0][2]) if ranked else None
            self.assertTrue(is_same(cheapest(machine, board, claim, prices), best))
            seen += len(ranked) > 2
        self.assertGreater(seen, 10)

    def test_values_that_are_no_prices(self):
        wrong = [{"b": 1}, {"b": 1, "c": 2, "x": 0}, {"b": 1, "c": 2, "d": 3}, {"b": 1, "c": -1}, {"b": Ratio(-1, 9), "c": 0},
                 {"b": True, "c": 1}, {"b": None, "c": 1}, {"b": "1", "c": 1}, {"bc": 1}, {"b": 1, "c": 2, None: 0}, {"b": 1, 2: 2},
                 [("b", 1), ("c", 2)], {"b": 1, "c": [2]}, {"b": 1, "C": 2}]
        for value in [*ODD_VALUES, *wrong]:
            for call in (costs, cheapest):
                self.assertEqual(raised(call, DAY, BOARD, Claim({7: 1}), value), ("InvalidPrices", value))
        self.assertEqual(raised(costs, DAY, BOARD, Claim({}, {"b": 1}), {"b": 1, "c": 1}), ("InvalidPrices", {"b": 1, "c": 1}))

    def test_what_does_not_fit(self):
        many, prices = Machine(1, [(0, letter, 0) for letter in "abcdef"], [0]), {"b": 1, "c": 1}
        for call in (costs, cheapest):
            self.assertEqual(raised(call, DAY, BOARD, Claim({7: 1, 6: 1}, {"z": 1}), prices), ("UnknownPlace", 6))
            self.assertEqual(raised(call, DAY, BOARD, Claim({3: 1}, {"z": 1, "d": 1}), prices), ("UnheardLetter", "d"))
            self.assertEqual(raised(call, many, Board([[]]), Claim({}, {"a": -1}), {bell: 1 for bell in "bcdef"}), ("TooMany", "bells", 4))
            self.assertEqual(raised(call, ring_machine(7), ring_board(3), Claim({}), {}), ("TooMany", "stands", 20))

    def test_what_is_passed_does_not_change(self):
        prices = {"c": HALF, "b": 1}
        told = costs(DAY, BOARD, CLAIM, prices)
        told.clear()
        self.assertTrue(is_same(prices, {"c": HALF, "b": 1}))
        self.assertEqual(len(costs(DAY, BOARD, CLAIM, prices)), 4)


def hearing(market, letters):
    return market.with_heard("".join(sorted(letters)))


def bell_markets(chance, rounds, low=-2, high=1, most=8):
    """Markets without and with one bell more, claims that fit both, and the bell."""
    while rounds:
        machine = random_machine(chance, "abcd", 4, 9)
        if not machine.letters:
            continue
        bell = chance.choice(machine.letters)
        fewer = "".join(letter for letter in machine.letters if letter != bell and chance.random() < 0.8)
        board = random_board(chance, fewer, 2, 2)
        if raised(Market, machine, fewer, board) or raised(Market, machine, "".join(sorted(fewer + bell)), board):
            continue
        market = Market(machine, fewer, board)
        more = hearing(market, fewer + bell)
        if len(Told(more).leads) <= most:
            rounds -= 1
            yield market, more, random_claim(chance, market, low, high), bell


def padded(chance, plan, last_first):
    """The plan with more coins here and there, so that it is one still: as many more as there are letters left."""
    times = Ratio(chance.randint(0, 3), 2)
    return {key: (coins + times * (key[1] if last_first else 1), list(position)) for key, (coins, position) in plan.items()}


def is_over(old, new):
    return old[1] == new[1] and set(new[0]) <= set(old[0])


class Plans(unittest.TestCase):
    def test_examples(self):
        both, one, three, four, zero = ((0, 2), 0), ((1,), 0), ((3,), 0), ((4,), 0), [Ratio(0)]
        self.assertTrue(is_same(with_bell(market=SHOP, claim=CLAIM, plan=PLAN, bell="b"), {
            (both, 2): (Ratio(10), zero), (one, 1): (Ratio(10), zero), (three, 0): (Ratio(10), zero), (three, 1): (Ratio(10), [Ratio(3)]),
            (four, 0): (Ratio(10), zero), (four, 1): (Ratio(10), [Ratio(3)])}))

    def test_where_a_bell_parts_a_chart(self):
        folded = folded_with_bell(market=SHOP, claim=CLAIM, plan=FOLDED, bell="b")
        zero = [Ratio(0)]
        self.assertTrue(is_same(folded, {stand: (Ratio(10), zero) for stand in sorted(Told(hearing(SHOP, "bxy")).leads)}))
        self.assertIs(is_folded_plan(hearing(SHOP, "bxy"), CLAIM, folded), True)

    def test_the_least_coins_and_of_several_the_first_key(self):
        """Three old charts have the place of the new one; plans may have more coins than are needed there."""
        net = Machine(4, [(0, "a", 1), (0, "", 3), (1, "c", 0), (1, "a", 2), (2, "a", 2), (2, "c", 3), (3, "a", 2), (3, "", 2)], [0])
        market = Market(net, "a", Board([[({"a": 1}, 1, 1)]]))
        told, more = Told(market), hearing(market, "ac")
        claim = Claim({})
        plan = {stand: (4, [at]) for at, stand in enumerate(sorted(told.leads))}
        self.assertIs(is_folded_plan(market, claim, plan), True)
        folded = folded_with_bell(market, claim, plan, "c")
        self.assertTrue(is_same(folded_with_bell(market, claim, dict(list(plan.items())[::-1]), "c"), folded))
        length = {(stand, left): plan[stand] if left else (4, [0]) for stand, left in told.keys(3)}
        carried = with_bell(market, claim, dict(sorted(length.items())[::-1]), "c")
        for stand, left in Told(more).keys(3):
            right = min(key for key in length if key[1] >= left and is_over(key[0], stand))
            self.assertTrue(is_same(carried[stand, left], (Ratio(4), [Ratio.total(length[right][1]) if left else Ratio(0)])))
        for stand in Told(more).leads:
            right = min(old for old in told.leads if is_over(old, stand))
            self.assertTrue(is_same(folded[stand], (Ratio(4), [Ratio(plan[right][1][0])])))

    def test_length_plans_by_chance(self):
        chance = random.Random(712)
        later = parted = 0
        for market, more, claim, bell in bell_markets(chance, 80):
            many = chance.randint(0, 4)
            told, new = Told(market), Told(more)
            plan = padded(chance, length_plan(market, claim, many), True)
            own = plan[told.first, many][0]
            self.assertIs(is_length_plan(market, claim, own, many, plan), True)
            right = {}
            for stand, left in sorted(new.keys(many)):
                _, key = min((fraction(plan[old][0]), old) for old in plan if old[1] >= left and is_over(old[0], stand))
                right[stand, left] = (plan[key][0], plan[key][1] if left else [Ratio(0) for _ in plan[key][1]])
                later += key[1] > left
            carried = with_bell(market, claim, plan, bell)
            self.assertTrue(is_same(carried, right))
            self.assertTrue(is_same(with_bell(market, claim, dict(list(plan.items())[::-1]), bell), right))
            self.assertTrue(new.is_length_plan(claim, own, many, carried))
            self.assertIs(is_length_plan(more, claim, own, many, carried), True)
            parted += len(new.leads) > len(told.leads)
        self.assertGreater(later, 30)
        self.assertGreater(parted, 20)

    def test_folded_plans_by_chance(self):
        chance = random.Random(713)
        seen = 0
        for market, more, claim, bell in bell_markets(chance, 80):
            plan = folded_plan(market, claim)
            if plan is None:
                continue
            told, new, plan = Told(market), Told(more), padded(chance, plan, False)
            right = {}
            for stand in sorted(new.leads):
                _, old = min((fraction(plan[old][0]), old) for old in plan if is_over(old, stand))
                right[stand] = plan[old]
            carried = folded_with_bell(market, claim, plan, bell)
            self.assertTrue(is_same(carried, right))
            self.assertTrue(is_same(folded_with_bell(market, claim, dict(list(plan.items())[::-1]), bell), right))
            self.assertTrue(new.is_folded_plan(claim, carried))
            self.assertTrue(carried[new.first][0].is_at_most(plan[told.first][0]))
            self.assertTrue(cover(more, claim).is_at_most(cover(market, claim)))
            seen += 1
        self.assertGreater(seen, 30)

    def test_tuples_and_integers_are_told_as_lists_and_ratios(self):
        plan = {key: (Ratio.total([coins]), tuple(position)) for key, (coins, position) in PLAN.items()}
        self.assertTrue(is_same(with_bell(SHOP, CLAIM, plan, "b"), with_bell(SHOP, CLAIM, PLAN, "b")))


class Flows(unittest.TestCase):
    def test_examples(self):
        day = Market(DAY, "bxy", BOARD)
        both, one, three, four = ((0, 2), 0), ((1,), 0), ((3,), 0), ((4,), 0)
        flow = {(both, 2): (0, {"b": 1}), (one, 1): (0, {"x": HALF, "y": HALF}), (three, 0): (HALF, {}), (four, 0): (HALF, {})}
        self.assertIs(is_length_flow(day, 2, flow), True)
        told = without_bell(market=day, claim=CLAIM, flow=flow, bell="b")
        self.assertTrue(is_same(told, {(FIRST, 2): (Ratio(0), {"x": HALF, "y": HALF}), (SECOND, 1): (Ratio(1), {})}))
        self.assertEqual([worth(day, CLAIM, flow), worth(SHOP, CLAIM, told)], [Ratio(5), Ratio(10)])

    def test_parts_that_come_together(self):
        """By the bell, and not, to one stand of the market without it, with as many letters left."""
        net = Machine(2, [(0, "a", 0), (0, "b", 1), (1, "a", 0), (1, "b", 0)], [0])
        market = Market(net, "ab", Board([[]]))
        zero, one, old = ((0,), 0), ((1,), 0), ((0, 1), 0)
        third = Ratio(1, 3)
        flow = {(zero, 2): (third, {"a": third, "b": third}), (zero, 1): (0, {"b": third}), (one, 1): (0, {"a": third}),
                (one, 0): (third, {}), (zero, 0): (third, {})}
        self.assertTrue(is_same(without_bell(market, Claim({}), flow, "b"), {
            (old, 1): (Ratio(2, 3), {}), (old, 2): (third, {"a": Ratio(2, 3)})}))
        self.assertTrue(is_same(without_bell(market, Claim({}), {(zero, 3): (0, {"b": 1}), (one, 2): (0, {"b": 1}), (zero, 1): (1, {})}, "b"),
                                {(old, 3): (Ratio(1), {})}))
        self.assertTrue(is_same(without_bell(market, Claim({}), {(zero, 0): (1, {})}, "b"), {(old, 0): (Ratio(1), {})}))

    def test_by_chance(self):
        chance = random.Random(714)
        by_bell = 0
        for market, more, claim, bell in bell_markets(chance, 80):
            many = chance.randint(0, 4)
            # The flow that is worth most for some other claim: it may go anywhere.
            flow = length_flow(more, random_claim(chance, more, -2, 3), many)
            told, new = Told(market), Told(more)
            ends, gone = {}, {}
            level = [("", Fraction(1))]
            for left in range(many, -1, -1):
                fresh = []
                for word, amount in level:
                    stand = new.passed(word)[-1]
                    leaves, weights = flow[stand, left]
                    base = fraction(leaves) + sum(map(fraction, weights.values()))
                    old = "".join(letter for letter in word if letter != bell)
                    key = (told.passed(old)[-1], many - len(old))
                    ends[key] = ends.get(key, 0) + amount * fraction(leaves) / base
                    for letter, weight in weights.items():
                        part = amount * fraction(weight) / base
                        fresh.append((word + letter, part))
                        by_bell += letter == bell
                        if letter != bell:
                            table = gone.setdefault(key, {})
                            table[letter] = table.get(letter, 0) + part
                level = fresh
            right = {key: (ratio(ends[key]), {letter: ratio(part) for letter, part in sorted(gone.get(key, {}).items())})
                     for key in sorted(ends)}
            carried = without_bell(more, claim, flow, bell)
            self.assertTrue(is_same(carried, right))
            self.assertTrue(told.is_length_flow(many, carried))
            self.assertIs(is_length_flow(market, many, carried), True)
            self.assertTrue(worth(more, claim, flow).is_at_most(worth(market, claim, carried)))
            self.assertTrue(worth(market, claim, carried).is_at_most(need(market, claim, many)))
        self.assertGreater(by_bell, 20)

    def test_bells_are_what_is_not_wanted(self):
        day = Market(DAY, "bcxy", Board([[({"x": 1, "y": 0}, HALF, HALF)], []], {(0, "c"): 0}))
        flow = {(((0,), 0), 0): (1, {})}
        for bell in "bc":
            self.assertTrue(is_same(without_bell(day, Claim({}, {"b": 0}), flow, bell), {
                (((0, 1), 0) if bell == "b" else ((0, 2), 0), 0): (Ratio(1), {})}))
        for claim, value in ((Claim({}, {"b": 1}), "b"), (Claim({}), "x"), (Claim({}), "y"), (Claim({}), "d"), (Claim({}), "")):
            self.assertEqual(raised(without_bell, day, claim, flow, value), ("InvalidBell", value))
        turning = Market(DAY, "bcxy", Board([[], []], {(0, "c"): 1}))
        self.assertEqual(raised(without_bell, turning, Claim({}), flow, "c"), ("InvalidBell", "c"))
        self.assertEqual(len(without_bell(turning, Claim({}), flow, "b")), 1)


class Errors(unittest.TestCase):
    def test_claims_come_first(self):
        for claim, error in OTHER_CLAIMS:
            for call in (with_bell, folded_with_bell, without_bell):
                self.assertEqual(raised(call, WAIT, claim, None, None), error)

    def test_then_plans_and_flows(self):
        folded = {**FOLDED, SECOND: (9, [0])}
        plans = [*ODD_VALUES, FOLDED, folded, {**PLAN, (SECOND, 1): (9, [0])}, {(FIRST, 2): (10, [0])}, {**PLAN, (SECOND, 0): (10, [0])},
                 {(SECOND, 1): (10, [0])}, {(FIRST, 13): (10, [0]), (SECOND, 12): (10, [0])}, {**PLAN, (FIRST, 2): (True, [0])}]
        for value in plans:
            self.assertEqual(raised(with_bell, SHOP, CLAIM, value, "x"), ("InvalidPlan", value))
        for value in [*ODD_VALUES, PLAN, folded, {FIRST: (10, [0])}, {**FOLDED, ((3,), 0): (10, [0])}, {**FOLDED, SECOND: (10, [])}]:
            self.assertEqual(raised(folded_with_bell, SHOP, CLAIM, value, "x"), ("InvalidPlan", value))
        for value in [*ODD_VALUES, PLAN, {(FIRST, 1): (0, {"x": 1}), (SECOND, 0): (1, {})}, {(FIRST, 1): (2, {})}, {(FIRST, 13): (1, {})},
                      {(SECOND, 1): (1, {})}, {FIRST: (1, {})}, {(FIRST, True): (1, {})}]:
            self.assertEqual(raised(without_bell, SHOP, CLAIM, value, "b"), ("InvalidFlow", value))

    def test_then_bells(self):
        for value in [*ODD_VALUES, "x", "y", "d", "bc", ("b",), "B", 0]:
            self.assertEqual(raised(with_bell, SHOP, CLAIM, PLAN, value), ("InvalidBell", value))
            self.assertEqual(raised(folded_with_bell, SHOP, CLAIM, FOLDED, value), ("InvalidBell", value))
        for value in [*ODD_VALUES, "x", "y", "d", "b", "c", "xy", ("x",)]:
            self.assertEqual(raised(without_bell, SHOP, CLAIM, {(FIRST, 1): (1, {})}, value), ("InvalidBell", value))

    def test_then_stands(self):
        """b leaves out what is at 0, a goes on from each place: where both are heard, any places may be left."""
        steps = [(place, "a", (place + 1) % 7) for place in range(7)] + [(place, "b", place) for place in range(1, 7)]
        market, claim = Market(Machine(7, steps, list(range(7))), "a", Board([[]])), Claim({})
        for call, plan in ((with_bell, length_plan(market, claim, 2)), (folded_with_bell, folded_plan(market, claim))):
            self.assertEqual(raised(call, market, claim, plan, "b"), ("TooMany", "stands", 20))
            self.assertEqual(raised(call, market, claim, plan, "a"), ("InvalidBell", "a"))

    def test_stands_of_the_market_without_the_bell(self):
        """Where c is not heard one place more may be: b leaves the place 0 out, and a goes on from each."""
        steps = [(place, "a", (place + 1) % 7) for place in range(7)] + [(place, "b", place) for place in range(1, 7)]
        market = Market(Machine(7, [*steps, (0, "c", 1)], [0]), "abc", Board([[]]))
        flow = length_flow(market, Claim({}), 1)
        self.assertEqual(raised(without_bell, market, Claim({}), flow, "c"), ("TooMany", "stands", 20))

    def test_what_is_passed_or_told_may_be_changed(self):
        plan = {key: (coins, list(position)) for key, (coins, position) in PLAN.items()}
        for told in (with_bell(SHOP, CLAIM, plan, "b"), with_bell(SHOP, CLAIM, plan, "b")):
            for _, position in told.values():
                position.append(1)
        self.assertTrue(is_same(plan, PLAN))
        folded_with_bell(SHOP, CLAIM, FOLDED, "b")[((3,), 0)][1].clear()
        self.assertEqual(FOLDED[SECOND], (10, [0]))


if __name__ == "__main__":
    unittest.main()
