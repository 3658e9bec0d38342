import random
import unittest
from itertools import combinations

from helper import ODD_VALUES, fraction, is_same, raised
from judges import Told, made_odd, random_board, spoiled
from machinery import random_machine, random_number
from test_markets import ring_board, ring_machine

from heardquotes.bells import bell_covers, bell_paper, bells_of, enough, is_bell_paper, is_lack_paper, lack_paper, lacking
from heardquotes.bells import market_with
from heardquotes.boards import Board
from heardquotes.claims import Claim
from heardquotes.flows import greatest_flow
from heardquotes.folded import cover, folded_plan
from heardquotes.lengths import need
from heardquotes.machines import Machine
from heardquotes.markets import Market, stands
from heardquotes.ratios import Ratio

HALF = Ratio(1, 2)
DAY = Machine(5, [(0, "b", 1), (0, "c", 2), (1, "x", 3), (1, "y", 4), (2, "x", 4), (2, "y", 3)], [0])
BOARD, CLAIM = Board([[({"x": 1, "y": 0}, HALF, HALF)]]), Claim({3: 10})


def all_sets(bells):
    return sorted("".join(chosen) for size in range(len(bells) + 1) for chosen in combinations(bells, size))


class Bells(unittest.TestCase):
    def test_what_is_wanted(self):
        self.assertEqual(bells_of(machine=DAY, board=BOARD, claim=CLAIM), "bc")
        self.assertEqual(bells_of(DAY, Board([[]]), Claim({})), "bcxy")
        self.assertEqual(bells_of(DAY, Board([[]]), Claim({}, {"c": 1, "x": 0})), "bxy")
        turning = Board([[], []], {(0, "b"): 1, (1, "y"): 1})
        self.assertEqual(bells_of(DAY, turning, Claim({})), "cxy")
        self.assertEqual(bells_of(DAY, BOARD, Claim({}, {"b": 1, "c": 2})), "")
        self.assertEqual(bells_of(Machine(1, [], [0]), Board([[]]), Claim({})), "")

    def test_the_market_with_a_set(self):
        self.assertEqual(market_with(machine=DAY, board=BOARD, claim=CLAIM, bells=""), Market(DAY, "xy", BOARD))
        self.assertEqual(market_with(DAY, BOARD, CLAIM, "c"), Market(DAY, "cxy", BOARD))
        self.assertEqual(market_with(DAY, BOARD, CLAIM, "bc"), Market(DAY, "bcxy", BOARD))
        self.assertEqual(market_with(DAY, BOARD, Claim({}, {"b": 3}), "c").heard, "bcxy")

    def test_covers_with_all_sets(self):
        self.assertTrue(is_same(bell_covers(machine=DAY, board=BOARD, claim=CLAIM),
                                {"": Ratio(10), "b": Ratio(5), "bc": Ratio(5), "c": Ratio(5)}))
        self.assertTrue(is_same(bell_covers(DAY, BOARD, Claim({3: 10}, {"b": 1, "c": 2})), {"": Ratio(7)}))
        loop = Machine(1, [(0, "a", 0), (0, "b", 0)], [0])
        self.assertTrue(is_same(bell_covers(loop, Board([[]]), Claim({0: 1}, {"a": 1})), {"": None, "b": None}))

    def test_least_and_greatest_sets(self):
        for number, least, most in ((5, ["b", "c"], [""]), (7, ["b", "c"], [""]), (Ratio(9, 2), [], ["bc"]), (10, [""], []),
                                    (Ratio(99, 10), ["b", "c"], [""]), (-1, [], ["bc"])):
            self.assertEqual(enough(machine=DAY, board=BOARD, claim=CLAIM, number=number), least)
            self.assertEqual(lacking(machine=DAY, board=BOARD, claim=CLAIM, number=number), most)

    def test_by_chance(self):
        chance = random.Random(401)
        mixed = 0
        for machine, board, claim in bell_cases(chance, 60):
            bells = bells_of(machine, board, claim)
            wanted = {*board.letters, *claim.tolls()}
            self.assertEqual(bells, "".join(letter for letter in machine.letters if letter not in wanted))
            covers = bell_covers(machine, board, claim)
            self.assertEqual(list(covers), all_sets(bells))
            for chosen, least in covers.items():
                market = market_with(machine, board, claim, chosen)
                self.assertEqual(market, Market(machine, "".join(sorted({*wanted, *chosen})), board))
                self.assertEqual(least, cover(market, claim))
                for other, more in covers.items():
                    if set(chosen) < set(other) and least is not None:
                        self.assertTrue(more.is_at_most(least))
            for number in {0, 1, 2, *[str(least) for least in covers.values() if least is not None]}:
                amount = number if isinstance(number, int) else [least for least in covers.values() if str(least) == number][0]
                right = {chosen for chosen in covers if covers[chosen] is not None and covers[chosen].is_at_most(amount)}
                least_sets = sorted(one for one in right if not any(set(other) < set(one) for other in right))
                wrong = set(covers) - right
                most_sets = sorted(one for one in wrong if not any(set(other) > set(one) for other in wrong))
                self.assertTrue(is_same(enough(machine, board, claim, amount), least_sets))
                self.assertTrue(is_same(lacking(machine, board, claim, amount), most_sets))
                mixed += bool(least_sets and most_sets)
                plans, lacks = bell_paper(machine, board, claim, amount)
                self.assertEqual((list(plans), list(lacks)), (least_sets, most_sets))
                self.assertIs(is_bell_paper(machine, board, claim, amount, (plans, lacks)), True)
                for chosen in covers:
                    paper = lack_paper(machine, board, claim, chosen, amount)
                    self.assertEqual(paper is None, chosen in right)
                    if paper is not None:
                        self.assertIs(is_lack_paper(machine, board, claim, chosen, amount, paper), True)
        self.assertGreater(mixed, 2)

    def test_a_bell_less_needs_no_less(self):
        chance = random.Random(402)
        for machine, board, claim in bell_cases(chance, 30):
            for chosen in all_sets(bells_of(machine, board, claim)):
                for bell in chosen:
                    fewer = market_with(machine, board, claim, chosen.replace(bell, ""))
                    more = market_with(machine, board, claim, chosen)
                    for many in (1, 3):
                        self.assertTrue(need(more, claim, many).is_at_most(need(fewer, claim, many)))


def day_by_chance(chance):
    """Some bells, then x or y, which are quoted, and dues that hang on both."""
    steps = {(0, bell, chance.choice([0, 1, 1, 2, 2, 3])) for bell in "bcd" for _ in range(chance.randint(0, 2))}
    steps |= {(place, letter, chance.randint(4, 7)) for place in range(4) for letter in "xy"}
    board = Board([[({"x": 1, "y": 0}, Ratio(1, chance.randint(2, 4)), HALF)]])
    return Machine(8, sorted(steps), [0]), board, Claim({place: random_number(chance, 0, 4) for place in range(4, 8)})


def bell_cases(chance, rounds):
    for _ in range(rounds):
        if chance.random() < 0.5:
            yield day_by_chance(chance)
            continue
        machine = random_machine(chance, "abcd", 4, 9)
        letters = "".join(letter for letter in machine.letters if chance.random() < 0.5)
        board = random_board(chance, letters, 2, 2)
        claim = Claim({place: random_number(chance, 0, 4) for place in range(machine.places)},
                      {letter: random_number(chance, -2, 1) for letter in letters if chance.random() < 0.4})
        if raised(bell_covers, machine, board, claim) is None:
            yield machine, board, claim


class Papers(unittest.TestCase):
    def test_lack_papers(self):
        flow = {((0,), 0): (0, {"x": HALF, "y": HALF}), ((3,), 0): (HALF, {}), ((4,), 0): (HALF, {})}
        self.assertIsNone(lack_paper(machine=DAY, board=BOARD, claim=CLAIM, bells="b", number=5))
        told = lack_paper(DAY, BOARD, CLAIM, "b", 4)
        self.assertIs(is_lack_paper(machine=DAY, board=BOARD, claim=CLAIM, bells="b", number=4, value=told), True)
        self.assertEqual(told, greatest_flow(market_with(DAY, BOARD, CLAIM, "b"), CLAIM))
        self.assertIs(is_lack_paper(DAY, BOARD, CLAIM, "b", 5, told), False)
        self.assertIs(is_lack_paper(DAY, BOARD, CLAIM, "", 4, told), False)
        for value in [*ODD_VALUES, flow, (told, {}), list(told)]:
            self.assertIs(is_lack_paper(DAY, BOARD, CLAIM, "b", 4, value), False)

    def test_lack_papers_that_are_rings(self):
        loop = Machine(2, [(0, "a", 0), (0, "b", 1)], [0])
        owing, ring = Claim({0: 1}, {"a": 1}), {((0,), 0): {"a": 3}}
        self.assertIs(is_lack_paper(loop, Board([[]]), owing, "b", 900, ring), True)
        self.assertIs(is_lack_paper(loop, Board([[]]), owing, "", 900, ring), False)
        self.assertIs(is_lack_paper(loop, Board([[]]), owing, "", 900, {((0, 1), 0): {"a": 3}}), True)
        for bells in ("", "b"):
            paper = lack_paper(loop, Board([[]]), owing, bells, 900)
            self.assertIs(is_lack_paper(loop, Board([[]]), owing, bells, 900, paper), True)
        self.assertEqual(lacking(loop, Board([[]]), owing, 900), ["b"])
        self.assertEqual(enough(loop, Board([[]]), owing, 900), [])
        self.assertIs(is_lack_paper(loop, Board([[]]), Claim({0: 1}, {"a": -1}), "b", 900, ring), False)

    def test_bell_papers(self):
        plans = {"b": folded_plan(market_with(DAY, BOARD, CLAIM, "b"), CLAIM), "c": folded_plan(market_with(DAY, BOARD, CLAIM, "c"), CLAIM)}
        lacks = {"": lack_paper(DAY, BOARD, CLAIM, "", 5)}
        self.assertIs(is_bell_paper(machine=DAY, board=BOARD, claim=CLAIM, number=5, value=(plans, lacks)), True)
        both = {**plans, "bc": folded_plan(market_with(DAY, BOARD, CLAIM, "bc"), CLAIM)}
        self.assertIs(is_bell_paper(DAY, BOARD, CLAIM, 5, (both, lacks)), True)
        self.assertIs(is_bell_paper(DAY, BOARD, CLAIM, 11, ({"": folded_plan(market_with(DAY, BOARD, CLAIM, ""), CLAIM)}, {})), True)
        self.assertIs(is_bell_paper(DAY, BOARD, CLAIM, -1, ({}, {"bc": lack_paper(DAY, BOARD, CLAIM, "bc", -1)})), True)
        told = bell_paper(machine=DAY, board=BOARD, claim=CLAIM, number=5)
        self.assertEqual([list(part) for part in told], [["b", "c"], [""]])
        wrong = [[plans, lacks], (plans,), (plans, lacks, {}), (plans, {}), ({"b": plans["b"]}, lacks), ({}, lacks), (lacks, plans),
                 ({**plans, "bc": plans["b"]}, lacks), (plans, {"": plans["b"]}), ({**plans, "cb": plans["b"]}, lacks),
                 ({**plans, "x": plans["b"]}, lacks), ({**plans, 0: plans["b"]}, lacks), (plans, {**lacks, "b": lacks[""]}),
                 (list(plans), lacks), (plans, None), ({**plans, "bb": plans["b"]}, lacks), (plans, {**lacks, ("b",): lacks[""]})]
        for value in [*ODD_VALUES, *wrong]:
            self.assertIs(is_bell_paper(DAY, BOARD, CLAIM, 5, value), False, value)
        self.assertIs(is_bell_paper(DAY, BOARD, CLAIM, Ratio(49, 10), (plans, lacks)), False)
        self.assertIs(is_bell_paper(DAY, BOARD, CLAIM, 10, (plans, lacks)), False)

    def test_papers_changed_by_one_thing(self):
        chance = random.Random(403)
        told = Told(market_with(DAY, BOARD, CLAIM, "b"))
        flow = lack_paper(DAY, BOARD, CLAIM, "b", 4)
        plans, lacks = bell_paper(DAY, BOARD, CLAIM, 5)
        for _ in range(60):
            other = spoiled(chance, flow, [*told.leads, *"bxy"])
            right = told.is_folded_flow(other) and told.worth(CLAIM, other) > 4
            self.assertIs(is_lack_paper(DAY, BOARD, CLAIM, "b", 4, other), right)
            self.assertIs(is_lack_paper(DAY, BOARD, CLAIM, "b", 4, made_odd(chance, flow)), False)
            plan = spoiled(chance, plans["b"])
            right = told.is_folded_plan(CLAIM, plan) and fraction(plan[told.first][0]) <= 5
            self.assertIs(is_bell_paper(DAY, BOARD, CLAIM, 5, ({**plans, "b": plan}, lacks)), right)
            self.assertIs(is_bell_paper(DAY, BOARD, CLAIM, 5, (plans, {"": made_odd(chance, lacks[""])})), False)


class Errors(unittest.TestCase):
    def test_bells(self):
        for value in [value for value in ODD_VALUES if value != ""] + ["cb", "bb", "x", "bx", "d", "bcx", ("b",), ["b"], "b "]:
            for call, rest in ((market_with, []), (lack_paper, [None]), (is_lack_paper, [None, None])):
                self.assertEqual(raised(call, DAY, BOARD, Claim({7: 1}), value, *rest), ("InvalidBells", value))

    def test_numbers(self):
        for value in [*ODD_VALUES, "1"]:
            for call, rest in ((enough, []), (lacking, []), (bell_paper, []), (is_bell_paper, [None])):
                self.assertEqual(raised(call, DAY, BOARD, Claim({7: 1}), value, *rest), ("InvalidNumber", value))
            for call, rest in ((lack_paper, []), (is_lack_paper, [None])):
                self.assertEqual(raised(call, DAY, BOARD, Claim({7: 1}), "b", value, *rest), ("InvalidNumber", value))

    def check(self, machine, board, claim, error):
        self.assertEqual(raised(bells_of, machine, board, claim), error)
        self.assertEqual(raised(market_with, machine, board, claim, ""), error)
        self.assertEqual(raised(lack_paper, machine, board, claim, "", 1), error)
        self.assertEqual(raised(is_lack_paper, machine, board, claim, "", 1, None), error)
        self.check_all_sets(machine, board, claim, error)

    def check_all_sets(self, machine, board, claim, error):
        self.assertEqual(raised(bell_covers, machine, board, claim), error)
        for call, rest in ((enough, []), (lacking, []), (bell_paper, []), (is_bell_paper, [None])):
            self.assertEqual(raised(call, machine, board, claim, 1, *rest), error)

    def test_what_does_not_fit(self):
        many = Machine(1, [(0, letter, 0) for letter in "abcdef"], [0])
        self.check(DAY, BOARD, Claim({7: 1, 6: 1}, {"z": 1}), ("UnknownPlace", 6))
        self.check(DAY, BOARD, Claim({3: 1}, {"z": 1, "d": 1}), ("UnheardLetter", "d"))
        self.check(DAY, Board([[({"w": 1}, 0, 0)], []], {(0, "v"): 1, (1, "a"): 1}), Claim({}, {"z": 1}), ("UnheardLetter", "v"))
        self.check(many, Board([[]]), Claim({1: 1}), ("UnknownPlace", 1))

    def test_too_many_bells(self):
        many = Machine(1, [(0, letter, 0) for letter in "abcdef"], [0])
        self.check_all_sets(many, Board([[]]), Claim({}, {"a": -1}), ("TooMany", "bells", 4))
        self.assertEqual(bells_of(many, Board([[]]), Claim({}, {"a": -1})), "bcdef")
        self.assertEqual(market_with(many, Board([[]]), Claim({}, {"a": -1}), "bcdef").heard, "abcdef")
        self.assertEqual(lack_paper(many, Board([[]]), Claim({}, {"a": -1}), "bcd", 0), None)
        self.assertEqual(len(bell_covers(many, Board([[]]), Claim({}, {"a": -1, "b": -1}))), 16)

    def test_too_many_stands(self):
        error = ("TooMany", "stands", 20)
        self.check_all_sets(ring_machine(7), ring_board(3), Claim({}), error)
        self.assertEqual(raised(market_with, ring_machine(7), ring_board(3), Claim({}), ""), error)
        self.assertEqual(raised(lack_paper, ring_machine(7), ring_board(3), Claim({}), "", 1), error)
        self.assertEqual(raised(is_lack_paper, ring_machine(7), ring_board(3), Claim({}), "", 1, None), error)
        self.assertEqual(bells_of(ring_machine(7), ring_board(3), Claim({})), "")
        machine = Machine(6, [(0, "a", 0), (0, "b", 0), (0, "a", 1)] + [
            (place, letter, place + 1) for place in range(1, 5) for letter in "ab"], [0])
        self.assertEqual(raised(bell_covers, machine, Board([[]]), Claim({})), ("TooMany", "stands", 20))
        self.assertEqual(raised(is_bell_paper, machine, Board([[]]), Claim({}), 1, None), ("TooMany", "stands", 20))
        self.assertEqual(raised(market_with, machine, Board([[]]), Claim({}), "ab"), ("TooMany", "stands", 20))
        self.assertEqual(len(stands(market_with(machine, Board([[]]), Claim({}), "b"))), 1)
        self.assertEqual(bells_of(machine, Board([[]]), Claim({})), "ab")


if __name__ == "__main__":
    unittest.main()
