import random
import unittest

from helper import ODD_VALUES, fraction, is_same, raised
from judges import Told, barring_market, made_odd, random_claim, random_market, spoiled
from test_kinds import ENDED, EVER, FIRST, SHOP
from test_lengths import OTHER_CLAIMS, WAIT

from heardquotes.claims import Claim
from heardquotes.folded import folded_plan
from heardquotes.more import is_most_paper, most_more, most_paper
from heardquotes.ratios import Ratio
from heardquotes.rings import owing_ring

CLAIM, MORE = Claim({1: 2}, {"c": -1}), Claim({2: 1}, {"c": Ratio(1, 2)})
RING = {EVER: {"c": 1}}
PAPER = (2, RING, {FIRST: (2, [0]), ENDED: (2, [0]), EVER: (2, [0])})


class More(unittest.TestCase):
    def test_examples(self):
        self.assertTrue(is_same(most_more(market=SHOP, claim=CLAIM, more=MORE), Ratio(2)))
        self.assertTrue(is_same(most_more(SHOP, Claim({1: 2}), MORE), Ratio(0)))
        self.assertIsNone(most_more(SHOP, CLAIM, Claim({2: 9}, {"c": 0, "a": 5})))
        self.assertIsNone(most_more(SHOP, CLAIM, Claim({2: 9}, {"c": -4})))
        self.assertEqual(raised(most_more, SHOP, MORE, CLAIM), ("NoRoom",))
        self.assertEqual(raised(most_paper, SHOP, MORE, Claim({})), ("NoRoom",))
        self.assertIsNone(most_paper(market=SHOP, claim=CLAIM, more=Claim({1: 9})))
        paper = most_paper(SHOP, CLAIM, MORE)
        self.assertEqual(paper[0], Ratio(2))
        self.assertIs(is_most_paper(SHOP, CLAIM, MORE, paper), True)

    def test_which_values_are_most_papers(self):
        self.assertIs(is_most_paper(market=SHOP, claim=CLAIM, more=MORE, value=PAPER), True)
        self.assertIs(is_most_paper(SHOP, CLAIM, MORE, (Ratio(2), {EVER: {"c": Ratio(1, 9)}}, PAPER[2])), True)
        plan = PAPER[2]
        wrong = [list(PAPER), PAPER[:2], (*PAPER, 1), (1, RING, plan), (3, RING, plan), (-2, RING, plan), (True, RING, plan),
                 (2, {}, plan), (2, None, plan), (2, RING, None), (2, RING, {**plan, EVER: (1, [0])}), (2, RING, {FIRST: (2, [0])}),
                 (2, {FIRST: {"a": 1}}, plan), ("2", RING, plan), (2, plan, RING)]
        for value in [*ODD_VALUES, *wrong]:
            self.assertIs(is_most_paper(SHOP, CLAIM, MORE, value), False, value)

    def test_a_claim_that_owes_itself(self):
        """It is judged all the same: two rings, one of which owes by the claim itself, and is even by more."""
        owing = Claim({}, {"c": 1})
        self.assertEqual(raised(most_paper, SHOP, owing, Claim({}, {"c": -1})), ("NoRoom",))
        self.assertIs(is_most_paper(SHOP, owing, Claim({}, {"c": -1}), (1, RING, {stand: (0, [0]) for stand in PAPER[2]})), False)
        self.assertIs(is_most_paper(SHOP, Claim({}, {"c": 0}), Claim({}, {"c": 1}), (0, RING, {stand: (0, [0]) for stand in PAPER[2]})),
                      True)

    def test_a_ring_that_stays_even(self):
        noughts = {stand: (0, [0]) for stand in PAPER[2]}
        self.assertIs(is_most_paper(SHOP, Claim({}), Claim({}), (0, RING, noughts)), False)
        self.assertIs(is_most_paper(SHOP, Claim({}), Claim({}, {"a": 1}), (5, RING, noughts)), False)

    def test_by_chance(self):
        chance = random.Random(391)
        found = []
        for _ in range(150):
            market = chance.choice([random_market, barring_market])(chance)
            claim, more = random_claim(chance, market, -3, 0), random_claim(chance, market, -1, 2)
            told = Told(market)
            if owing_ring(market, claim) is not None:
                self.assertEqual(raised(most_more, market, claim, more), ("NoRoom",))
                continue
            most, paper = most_more(market, claim, more), most_paper(market, claim, more)
            self.assertEqual(most is None, owing_ring(market, more) is None)
            if most is None:
                self.assertIsNone(paper)
                self.assertIsNotNone(folded_plan(market, claim + more * 1000))
                continue
            number, ring, plan = paper
            found.append(number)
            self.assertTrue(number == most and number.sign >= 0)
            together = claim + more * number
            self.assertTrue(told.is_ring(ring) and told.is_folded_plan(together, plan))
            self.assertEqual((told.tolls(together, ring), told.tolls(more, ring) > 0), (0, True))
            self.assertIs(is_most_paper(market, claim, more, paper), True)
            self.assertIsNone(owing_ring(market, together))
            self.assertIsNotNone(owing_ring(market, claim + more * (number + Ratio(1, 10 ** 6))))
            for _ in range(4):
                other = spoiled(chance, paper, [*told.leads, *"abcd"])
                self.assertIs(is_most_paper(market, claim, more, other), self.is_right(told, claim, more, other))
                self.assertIs(is_most_paper(market, claim, more, made_odd(chance, paper)), False)
        self.assertGreater(len(found), 20)
        self.assertGreater(len({str(number) for number in found}), 3)

    def is_right(self, told, claim, more, value):
        number, ring, plan = value
        if fraction(number) < 0 or not told.is_ring(ring) or told.tolls(more, ring) <= 0:
            return False
        together = claim + more * number
        return told.tolls(together, ring) == 0 and told.is_folded_plan(together, plan)

    def test_errors(self):
        for call, rest in ((most_more, []), (most_paper, []), (is_most_paper, [None])):
            for claim, error in OTHER_CLAIMS:
                self.assertEqual(raised(call, WAIT, claim, Claim({6: 1}, {"x": 1}), *rest), error)
                self.assertEqual(raised(call, WAIT, Claim({}, {"a": 9}), claim, *rest), error)


if __name__ == "__main__":
    unittest.main()
