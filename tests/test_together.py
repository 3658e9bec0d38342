import random
import unittest

from helper import ODD_VALUES, fraction, is_same, raised
from judges import random_claim, random_market
from test_folded import SWING
from test_lengths import DUE, OTHER_CLAIMS, WAIT

from heardquotes.boards import Board
from heardquotes.claims import Claim
from heardquotes.folded import cover
from heardquotes.machines import Machine
from heardquotes.markets import Market
from heardquotes.ratios import Ratio
from heardquotes.together import own_covers, saved, together

MUTE = Market(Machine(3, [(0, "a", 1), (0, "b", 2)], [0]), "", Board([[]]))
CLAIMS = [Claim({1: 6}), Claim({2: 3})]
CALLS = (together, own_covers, saved)


def group_cases(chance, rounds, most=3):
    for _ in range(rounds):
        market = random_market(chance, most_stands=8)
        yield market, [random_claim(chance, market, -1, 1) for _ in range(chance.randint(1, most))]


class Together(unittest.TestCase):
    def test_examples(self):
        self.assertTrue(is_same(together(market=MUTE, claims=CLAIMS), Ratio(6)))
        self.assertTrue(is_same(own_covers(market=MUTE, claims=CLAIMS), [Ratio(6), Ratio(3)]))
        self.assertTrue(is_same(saved(market=MUTE, claims=CLAIMS), Ratio(3)))
        self.assertTrue(is_same([call(MUTE, tuple(CLAIMS)) for call in CALLS], [Ratio(6), [Ratio(6), Ratio(3)], Ratio(3)]))
        self.assertTrue(is_same([call(WAIT, [DUE]) for call in CALLS], [Ratio(3), [Ratio(3)], Ratio(0)]))
        self.assertTrue(is_same([call(WAIT, [DUE, DUE * 2]) for call in CALLS], [Ratio(9), [Ratio(3), Ratio(6)], Ratio(0)]))

    def test_one_claim_and_four(self):
        claims = [Claim({1: 4}), Claim({2: 1}), Claim({0: 2}), Claim({1: 1, 2: 3})]
        self.assertTrue(is_same([call(MUTE, claims) for call in CALLS], [Ratio(5), [Ratio(4), Ratio(1), Ratio(2), Ratio(3)], Ratio(5)]))

    def test_where_there_is_no_cover(self):
        owing, paying = Claim({0: 1}, {"a": 1}), Claim({0: 1}, {"a": -1})
        self.assertTrue(is_same([call(SWING, [owing, paying]) for call in CALLS], [Ratio(2), [None, Ratio(1)], None]))
        self.assertTrue(is_same([call(SWING, [owing, Claim({0: 1})]) for call in CALLS], [None, [None, Ratio(1)], None]))
        self.assertTrue(is_same([call(SWING, [owing]) for call in CALLS], [None, [None], None]))

    def test_by_chance(self):
        chance = random.Random(731)
        spared = none = 0
        for market, claims in group_cases(chance, 80):
            whole = claims[0]
            for claim in claims[1:]:
                whole = whole + claim
            covers = [cover(market, claim) for claim in claims]
            self.assertEqual(together(market, claims), cover(market, whole))
            self.assertEqual(own_covers(market, claims), covers)
            if None in covers:
                none += 1
                self.assertIsNone(saved(market, claims))
                continue
            rest = sum(map(fraction, covers)) - fraction(cover(market, whole))
            self.assertEqual(fraction(saved(market, claims)), rest)
            self.assertGreaterEqual(rest, 0)
            spared += rest > 0
            self.assertEqual(together(market, [claim * Ratio(7, 3) for claim in claims]), together(market, claims) * Ratio(7, 3))
        self.assertGreater(min(spared, none), 3)


class Errors(unittest.TestCase):
    def test_claims(self):
        for value in ODD_VALUES:
            wanted = {"[None]": 0, "(None,)": 0}.get(repr(value))
            for call in CALLS:
                self.assertEqual(raised(call, WAIT, value), ("InvalidClaims", wanted), value)
        bad = Claim({7: 1})
        for value, position in (([bad, None], 1), ([True, bad], 0), ([bad] * 5 + ["a"], 5), (Claim({}), None), ({0: DUE}, None), ([[DUE]], 0)):
            for call in CALLS:
                self.assertEqual(raised(call, WAIT, value), ("InvalidClaims", position))

    def test_the_first_claim_that_does_not_fit(self):
        for claim, error in OTHER_CLAIMS:
            for call in CALLS:
                self.assertEqual(raised(call, WAIT, [DUE, claim, Claim({7: 1})]), error)
                self.assertEqual(raised(call, WAIT, [DUE] * 5 + [claim]), error)
        for call in CALLS:
            self.assertEqual(raised(call, WAIT, [Claim({}, {"z": 1}), Claim({7: 1})]), ("UnheardLetter", "z"))
            # Together they would fit: what does not fit is looked at claim by claim.
            self.assertEqual(raised(call, WAIT, [Claim({}, {"z": 1}), Claim({}, {"z": -1})]), ("UnheardLetter", "z"))

    def test_five_claims(self):
        for call in CALLS:
            self.assertEqual(raised(call, WAIT, [DUE] * 5), ("TooMany", "claims", 4))
            self.assertIsNone(raised(call, WAIT, [DUE] * 4))

    def test_what_is_passed_does_not_change(self):
        claims = list(CLAIMS)
        own_covers(MUTE, claims).clear()
        self.assertEqual(claims, CLAIMS)


if __name__ == "__main__":
    unittest.main()
