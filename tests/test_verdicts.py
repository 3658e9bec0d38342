import random
import unittest

from helper import ODD_VALUES, fraction, is_same, raised
from judges import Told, made_odd, spoiled
from test_kinds import CLAIM, ENDED, EVER, FIRST, FREE, PLAN, SHOP, cases
from test_lengths import OTHER_CLAIMS, WAIT

from heardquotes.boards import Board
from heardquotes.flows import flow_worth, is_flow
from heardquotes.folded import folded_plan
from heardquotes.kinds import limit
from heardquotes.lengths import first_lack, need
from heardquotes.ratios import Ratio
from heardquotes.rings import is_lead
from heardquotes.verdicts import each_paper, fails_paper, is_each_paper, is_fails_paper, is_one_paper, one_paper, verdict

RING = {EVER: {"c": 1}}
EACH_PAPER = (PLAN, ("b", RING))
ONE_PAPER = {FIRST: (2, [0]), ENDED: (2, [0]), EVER: (0, [0])}
FLOW = {FIRST: (0, {"a": 1}), ENDED: (1, {})}
OPEN_SHOP = SHOP.with_board(Board([[]]))
LEAD = ("b", RING)


class Verdicts(unittest.TestCase):
    def test_examples(self):
        self.assertEqual([verdict(SHOP, CLAIM, number) for number in (1, Ratio(19, 10), 2, Ratio(2), 900)],
                         ["fails", "fails", "each", "each", "each"])
        self.assertEqual([verdict(SHOP, FREE, number) for number in (1, Ratio(19, 10), 2, 900)], ["fails", "fails", "one", "one"])
        self.assertEqual([verdict(OPEN_SHOP, CLAIM, number) for number in (1, 2, 900)], ["fails"] * 3)
        self.assertEqual(verdict(market=SHOP, claim=FREE, number=2), "one")

    def test_papers_of_each_kind(self):
        self.assertIs(is_one_paper(market=SHOP, claim=FREE, number=2, value=ONE_PAPER), True)
        self.assertIs(is_each_paper(market=SHOP, claim=CLAIM, number=2, value=EACH_PAPER), True)
        self.assertIs(is_fails_paper(market=SHOP, claim=CLAIM, number=1, value=FLOW), True)
        self.assertIs(is_fails_paper(OPEN_SHOP, CLAIM, 900, LEAD), True)
        for number in (Ratio(199, 100), 1):
            self.assertIs(is_one_paper(SHOP, FREE, number, ONE_PAPER), False)
            self.assertIs(is_each_paper(SHOP, CLAIM, number, EACH_PAPER), False)
        self.assertIs(is_fails_paper(SHOP, CLAIM, 2, FLOW), False)
        self.assertIs(is_fails_paper(SHOP, CLAIM, Ratio(199, 100), FLOW), True)
        self.assertIs(is_fails_paper(SHOP, CLAIM, 1, LEAD), False)
        self.assertIs(is_fails_paper(OPEN_SHOP, CLAIM, 1, ("", RING)), False)
        self.assertIs(is_each_paper(SHOP, CLAIM, 2, (PLAN, ("", RING))), False)
        self.assertIs(is_each_paper(SHOP, CLAIM, 2, [PLAN, LEAD]), False)
        self.assertIs(is_each_paper(SHOP, CLAIM, 2, (PLAN, LEAD, LEAD)), False)
        self.assertIs(is_each_paper(SHOP, CLAIM, 2, (ONE_PAPER, LEAD)), False)
        self.assertIs(is_each_paper(SHOP, FREE, 2, EACH_PAPER), False)

    def test_papers_of_other_verdicts_and_other_values(self):
        papers = [ONE_PAPER, EACH_PAPER, FLOW, LEAD, PLAN, RING]
        right = [(is_one_paper, FREE, 2, ONE_PAPER), (is_each_paper, CLAIM, 2, EACH_PAPER), (is_fails_paper, CLAIM, 1, FLOW)]
        for judge, claim, number, own in right:
            for value in [*ODD_VALUES, *papers]:
                if value is not own:
                    self.assertIs(judge(SHOP, claim, number, value), False, (judge, value))

    def test_told_papers(self):
        self.assertIs(is_one_paper(SHOP, FREE, 2, one_paper(market=SHOP, claim=FREE, number=2)), True)
        self.assertIs(is_each_paper(SHOP, CLAIM, 2, each_paper(market=SHOP, claim=CLAIM, number=2)), True)
        self.assertTrue(is_same(fails_paper(market=SHOP, claim=CLAIM, number=1),
                                {FIRST: (Ratio(0), {"a": Ratio(1)}), ENDED: (Ratio(1), {})}))
        self.assertIs(is_lead(OPEN_SHOP, CLAIM, FIRST, fails_paper(OPEN_SHOP, CLAIM, 5)), True)

    def test_by_chance(self):
        chance = random.Random(381)
        seen = {"one": 0, "each": 0, "fails": 0}
        for market, claim, told, kinds in cases(chance, 100):
            first, least = told.first, limit(market, claim)
            numbers = [-1, 0, 2, 50] if least is None else [least, least + Ratio(1, 1000), least - Ratio(1, 1000), -1]
            for number in numbers:
                if least is None or fraction(number) < fraction(least):
                    expected = "fails"
                else:
                    expected = {"sound": "one", "bounded": "each"}[kinds[first]]
                seen[expected] += 1
                self.assertEqual(verdict(market, claim, number), expected)
                papers = [one_paper(market, claim, number), each_paper(market, claim, number), fails_paper(market, claim, number)]
                self.assertEqual([paper is not None for paper in papers], [expected == name for name in ("one", "each", "fails")])
                self.check_papers(told, claim, number, papers)
                self.check_changed(chance, told, claim, number, papers)
        self.assertGreater(min(seen.values()), 5)

    def check_papers(self, told, claim, number, papers):
        market, judges = told.market, (is_one_paper, is_each_paper, is_fails_paper)
        for paper, own in zip(papers, judges):
            if paper is not None:
                self.assertEqual([judge(market, claim, number, paper) for judge in judges], [judge is own for judge in judges])
        one, each, fails = papers
        if one is not None:
            self.assertTrue(told.is_folded_plan(claim, one) and fraction(one[told.first][0]) <= fraction(number))
        if each is not None:
            plan, (word, ring) = each
            self.assertTrue(told.is_half_plan(claim, plan) and fraction(plan[told.first][0]) <= fraction(number))
            self.assertTrue(told.is_ring(ring) and told.tolls(claim, ring) > 0 and told.passed(word)[-1] in ring)
            self.assertIsNone(folded_plan(market, claim))
        if isinstance(fails, dict):
            self.assertTrue(told.is_folded_flow(fails) and told.worth(claim, fails) > fraction(number))
            self.assertTrue(is_flow(market, fails) and not flow_worth(market, claim, fails).is_at_most(number))

    def check_changed(self, chance, told, claim, number, papers):
        one, each, fails = papers
        if one is not None:
            other = spoiled(chance, one)
            right = told.is_folded_plan(claim, other) and fraction(other[told.first][0]) <= fraction(number)
            self.assertIs(is_one_paper(told.market, claim, number, other), right)
        if each is not None:
            other = spoiled(chance, each[0])
            right = told.is_half_plan(claim, other) and fraction(other[told.first][0]) <= fraction(number)
            self.assertIs(is_each_paper(told.market, claim, number, (other, each[1])), right)
            self.assertIs(is_each_paper(told.market, claim, number, (made_odd(chance, each[0]), each[1])), False)
            self.assertIs(is_each_paper(told.market, claim, number, (each[0], (each[1][0], made_odd(chance, each[1][1])))), False)
        if isinstance(fails, dict):
            other = spoiled(chance, fails, "abc")
            right = told.is_folded_flow(other) and told.worth(claim, other) > fraction(number)
            self.assertIs(is_fails_paper(told.market, claim, number, other), right)
            self.assertIs(is_fails_paper(told.market, claim, number, made_odd(chance, fails)), False)

    def test_fails_exactly_if_some_length_lacks(self):
        chance = random.Random(382)
        for market, claim, told, kinds in cases(chance, 40):
            number = need(market, claim, 12)
            self.assertEqual(verdict(market, claim, number - Ratio(1, 999)), "fails")
            many = first_lack(market, claim, 3, 12)
            if many is not None:
                self.assertEqual(verdict(market, claim, 3), "fails")

    def test_errors(self):
        calls = ((verdict, []), (one_paper, []), (each_paper, []), (fails_paper, []), (is_one_paper, [None]),
                 (is_each_paper, [None]), (is_fails_paper, [None]))
        for call, rest in calls:
            for value in [*ODD_VALUES, "1"]:
                self.assertEqual(raised(call, WAIT, OTHER_CLAIMS[0][0], value, *rest), ("InvalidNumber", value))
            for claim, error in OTHER_CLAIMS:
                self.assertEqual(raised(call, WAIT, claim, 1, *rest), error)


if __name__ == "__main__":
    unittest.main()
