import random
import unittest

from helper import ODD_VALUES, fraction, is_same, raised
from judges import Told, barring_market, kinds_of, made_odd, owing_stands, random_claim, random_market, spoiled
from test_lengths import OTHER_CLAIMS, WAIT
from test_markets import MARKET, WRONG_STANDS

from heardquotes.boards import Board
from heardquotes.claims import Claim
from heardquotes.folded import cover
from heardquotes.machines import Machine
from heardquotes.markets import Market, stands
from heardquotes.ratios import Ratio
from heardquotes.rings import does_owe, heard_from, is_lead, is_ring, is_trail, lead, live_from, owing_ring, ring_sum
from heardquotes.rings import trail

HALF = Ratio(1, 2)
# By a to 1, which may be left by a for 0; by b to 2, where c is heard for ever. The quote bars b at 0.
NET = Machine(4, [(0, "a", 1), (0, "b", 2), (1, "a", 0), (1, "c", 1), (2, "c", 2), (0, "c", 3)], [0])
BOARD = Board([[({"b": 1}, None, 0)]])
SHOP = Market(NET, "abc", BOARD)
ZERO, ONE, TWO, THREE = [((place,), 0) for place in range(4)]
CLAIM = Claim({1: 2}, {"c": 1, "a": -1})
SIDE = {TWO: {"c": 1}}
LOOP = {ONE: {"c": HALF}}
TURN = {ZERO: {"a": 2}, ONE: {"a": 2}}
BOTH = {ZERO: {"a": 2}, ONE: {"a": 2, "c": Ratio(7, 3)}}
# Two letters that are fair only half and half.
HALVES = Market(Machine(2, [(0, "a", 0), (0, "b", 1), (1, "a", 0)], [0]), "ab", Board([[({"a": 1, "b": 0}, HALF, HALF)], []]))


class Rings(unittest.TestCase):
    def test_which_values_are_rings(self):
        for value in (SIDE, LOOP, TURN, BOTH, {TWO: {"c": Ratio(1, 999)}}, {ONE: {"a": 1}, ZERO: {"a": Ratio(1)}}):
            self.assertIs(is_ring(market=SHOP, value=value), True)
        wrong = [{**SIDE, **TURN}, {**SIDE, **LOOP}, {ZERO: {"a": 2}}, {ZERO: {"a": 2}, ONE: {"a": 1}}, {**TURN, ZERO: {}},
                 {ZERO: {"a": 2, "c": 1}, ONE: {"a": 2}}, {ZERO: {"a": 2, "c": 1}, ONE: {"a": 3}, THREE: {}}, {TWO: {}},
                 {ZERO: {"b": 1}, TWO: {"c": 1}}, {TWO: {"c": 0}}, {TWO: {"c": -1}}, {TWO: {"c": True}}, {TWO: {"a": 1}},
                 {TWO: ["c"]}, {TWO: {"c": None}}, {TWO: (0, {"c": 1})}, {((2,), False): {"c": 1}}, {TWO: {"c": 1, 0: 1}},
                 {((2, 3), 0): {"c": 1}}, [(TWO, {"c": 1})], {**SIDE, THREE: {}}, {2: {"c": 1}}, {TWO: {"c": "1"}}, {TWO: {"d": 1}}]
        for value in [*ODD_VALUES, *wrong]:
            self.assertIs(is_ring(SHOP, value), False, value)
            self.assertIs(does_owe(SHOP, CLAIM, value), False)
            self.assertEqual(raised(ring_sum, SHOP, Claim({7: 1}), value), ("InvalidRing", value))

    def test_rings_go_by_fair_weights(self):
        start, later = ((0,), 0), ((1,), 0)
        self.assertIs(is_ring(HALVES, {start: {"a": 1}}), False)
        self.assertIs(is_ring(HALVES, {start: {"a": 1, "b": 1}, later: {"a": 1}}), False)
        bare = HALVES.with_board(Board([[({"a": 1, "b": 0}, HALF, HALF)], []], {(0, "b"): 1, (1, "a"): 0}))
        self.assertIs(is_ring(bare, {start: {"a": 1, "b": 1}, ((1,), 1): {"a": 1}}), True)
        self.assertIs(is_ring(bare, {start: {"a": 1, "b": 2}, ((1,), 1): {"a": 2}}), False)
        self.assertIs(is_ring(bare, {start: {"b": 2}, ((1,), 1): {"a": 2}}), False)
        # The same flow without the letter that keeps both together.
        self.assertIs(is_ring(bare, {start: {"a": 1, "b": 1}, ((1,), 1): {"a": 2}}), False)

    def test_sums(self):
        self.assertTrue(is_same(ring_sum(market=SHOP, claim=CLAIM, ring=SIDE), Ratio(1)))
        self.assertEqual([ring_sum(SHOP, CLAIM, ring) for ring in (LOOP, TURN, BOTH)], [HALF, Ratio(-4), Ratio(-5, 3)])
        self.assertEqual(ring_sum(SHOP, Claim({0: 4}), TURN), Ratio(0))
        self.assertEqual([does_owe(SHOP, CLAIM, ring) for ring in (SIDE, LOOP, TURN, BOTH)], [True, True, False, False])
        self.assertIs(does_owe(market=SHOP, claim=Claim({}), value=SIDE), False)

    def test_multiples_are_rings(self):
        chance = random.Random(361)
        for market, claim, told, ring in owing_rings(chance, 60):
            times = Ratio(chance.randint(1, 9), chance.randint(1, 9))
            more = {stand: {letter: weight * times for letter, weight in weights.items()} for stand, weights in ring.items()}
            self.assertIs(is_ring(market, more), True)
            self.assertEqual(ring_sum(market, claim, more), ring_sum(market, claim, ring) * times)
            self.assertTrue(told.is_ring(more))

    def test_wrong_by_one_thing(self):
        chance = random.Random(362)
        verdicts = []
        for market, claim, told, ring in owing_rings(chance, 120):
            for _ in range(6):
                other = spoiled(chance, ring, [*told.leads, *"abcd"])
                right = told.is_ring(other)
                self.assertIs(is_ring(market, other), right, (market, other))
                self.assertIs(does_owe(market, claim, other), right and told.tolls(claim, other) > 0)
                verdicts.append(right)
                self.assertIs(is_ring(market, made_odd(chance, ring)), False)
        self.assertGreater(verdicts.count(True), 5)
        self.assertGreater(verdicts.count(False), 60)

    def test_errors(self):
        for claim, error in OTHER_CLAIMS:
            self.assertEqual(raised(does_owe, WAIT, claim, None), error)
            self.assertEqual(raised(owing_ring, WAIT, claim), error)
            self.assertEqual(raised(ring_sum, WAIT, claim, None), ("InvalidRing", None))
        self.assertEqual(raised(ring_sum, SHOP, Claim({7: 1, 6: 1}, {"z": 1}), SIDE), ("UnknownPlace", 6))
        self.assertEqual(raised(ring_sum, SHOP, Claim({0: 1}, {"z": 1, "d": 2}), SIDE), ("UnheardLetter", "d"))


def owing_rings(chance, rounds):
    for _ in range(rounds):
        market = random_market(chance)
        claim = random_claim(chance, market, -1, 3)
        ring = owing_ring(market, claim)
        if ring is not None:
            yield market, claim, Told(market), ring


class Owing(unittest.TestCase):
    def test_examples(self):
        ring = owing_ring(market=SHOP, claim=CLAIM)
        self.assertIs(does_owe(SHOP, CLAIM, ring), True)
        self.assertIsNone(owing_ring(SHOP, Claim({1: 5}, {"c": 0, "a": -1, "b": 9})))
        self.assertIsNone(owing_ring(SHOP, Claim({1: 5}, {"a": -1})))
        self.assertEqual(set(owing_ring(SHOP, Claim({}, {"a": 1, "c": -5}))), {ZERO, ONE})
        self.assertIsNone(owing_ring(HALVES, Claim({}, {"a": 1, "b": -1})))

    def test_against_all_policies(self):
        chance = random.Random(363)
        seen = []
        for _ in range(120):
            market = random_market(chance, most_stands=4)
            claim, told = random_claim(chance, market, -1, 3), Told(market)
            ring = owing_ring(market, claim)
            self.assertEqual(ring is not None, bool(owing_stands(told, claim)), (market, claim))
            self.assertEqual(ring is None, cover(market, claim) is not None)
            seen.append(ring is None)
            if ring is not None:
                self.assertTrue(told.is_ring(ring) and told.tolls(claim, ring) > 0)
                self.assertIs(does_owe(market, claim, ring), True)
                self.assertEqual(fraction(ring_sum(market, claim, ring)), told.tolls(claim, ring))
                self.assertEqual((list(ring), [list(weights) for weights in ring.values()]),
                                 (sorted(ring), [sorted(weights) for weights in ring.values()]))
                self.assertTrue(all(isinstance(part, Ratio) for weights in ring.values() for part in weights.values()))
        self.assertGreater(min(seen.count(True), seen.count(False)), 15)


class From(unittest.TestCase):
    def test_examples(self):
        self.assertTrue(is_same(heard_from(market=SHOP, stand=ONE), [ZERO, ONE, TWO, THREE]))
        self.assertTrue(is_same(live_from(market=SHOP, stand=ONE), [ZERO, ONE, THREE]))
        self.assertEqual([heard_from(SHOP, TWO), live_from(SHOP, THREE), live_from(SHOP, TWO)], [[TWO], [THREE], [TWO]])

    def test_by_chance(self):
        chance = random.Random(364)
        for _ in range(50):
            market = random_market(chance)
            told = Told(market)
            live = {stand: told.live(stand) for stand in told.leads}
            for stand in told.leads:
                self.assertEqual(heard_from(market, stand), sorted(told.reached(told.leads, stand)))
                self.assertEqual(live_from(market, stand), sorted(told.reached(live, stand)))

    def test_wrong_stands(self):
        wrong = [value for value in WRONG_STANDS if value not in ([], ((2,), 0))]
        for value in wrong:
            for call, rest in ((heard_from, []), (live_from, [])):
                self.assertEqual(raised(call, MARKET, value), ("InvalidStand", value))
            for call, rest in ((trail, []), (lead, []), (is_trail, [None]), (is_lead, [None])):
                self.assertEqual(raised(call, MARKET, Claim({7: 1}), value, *rest), ("InvalidStand", value))
        for claim, error in OTHER_CLAIMS:
            for call, rest in ((trail, []), (lead, []), (is_trail, [None]), (is_lead, [None])):
                self.assertEqual(raised(call, WAIT, claim, ((0,), 0), *rest), error)


class Trails(unittest.TestCase):
    def test_which_values_are_trails(self):
        for value in (("b", SIDE), ("aab", SIDE), ("bccc", {TWO: {"c": Ratio(1, 5)}}), ("a", LOOP), ("acc", LOOP)):
            self.assertIs(is_trail(market=SHOP, claim=CLAIM, stand=ZERO, value=value), True)
            self.assertIs(is_lead(market=SHOP, claim=CLAIM, stand=ZERO, value=value), "b" not in value[0])
        self.assertIs(is_trail(SHOP, CLAIM, TWO, ("", SIDE)), True)
        self.assertIs(is_lead(SHOP, CLAIM, TWO, ("", SIDE)), True)
        wrong = [("", SIDE), ("a", SIDE), ("b", LOOP), ("a", TURN), ("a", BOTH), ["b", SIDE], ("b", SIDE, 1), ("b",), (["b"], SIDE),
                 ("bb", SIDE), ("B", SIDE), ("b", {}), ("b", None), (None, SIDE), ("b", {TWO: {"c": True}}), ("b", [TWO]),
                 ("ab", SIDE), ("c", SIDE), ("b-", SIDE), (b"b", SIDE), SIDE]
        for value in [*ODD_VALUES, *wrong]:
            self.assertIs(is_trail(SHOP, CLAIM, ZERO, value), False, value)
            self.assertIs(is_lead(SHOP, CLAIM, ZERO, value), False, value)

    def test_examples(self):
        fair = Claim({}, {"c": 1, "a": -1})
        only = Market(Machine(3, [(0, "a", 1), (0, "b", 2), (2, "c", 2)], [0]), "abc", BOARD)
        self.assertIs(is_trail(only, fair, ZERO, trail(market=only, claim=fair, stand=ZERO)), True)
        self.assertIsNone(lead(market=only, claim=fair, stand=ZERO))
        self.assertIsNone(trail(only, fair, ONE))
        self.assertIsNone(lead(only, fair, ONE))
        self.assertIs(is_lead(only, fair, TWO, lead(only, fair, TWO)), True)
        self.assertIsNone(trail(only, Claim({}, {"c": 0, "b": 5}), ZERO))

    def test_by_chance(self):
        chance = random.Random(365)
        seen = set()
        for _ in range(100):
            market = chance.choice([random_market(chance, most_stands=4), barring_market(chance)])
            claim, told = random_claim(chance, market, -2, 2), Told(market)
            kinds = kinds_of(told, claim)
            live = {stand: told.live(stand) for stand in told.leads}
            for stand in stands(market):
                seen.add(kinds[stand])
                way, live_way = trail(market, claim, stand), lead(market, claim, stand)
                self.assertEqual(way is None, kinds[stand] == "sound", (market, claim, stand))
                self.assertEqual(live_way is None, kinds[stand] != "endless")
                for value in (way, live_way):
                    if value is not None:
                        word, ring = value
                        self.assertTrue(told.is_ring(ring) and told.tolls(claim, ring) > 0)
                        self.assertIn(told.passed(word, stand)[-1], ring)
                        self.assertIs(is_trail(market, claim, stand, value), True)
                        alive = all(letter in live[at] for letter, at in zip(word, told.passed(word, stand)))
                        self.assertIs(is_lead(market, claim, stand, value), alive)
                        self.assertIs(is_trail(market, claim, stand, (word, made_odd(chance, ring))), False)
                if live_way is not None:
                    self.assertIs(is_lead(market, claim, stand, live_way), True)
        self.assertEqual(seen, {"sound", "bounded", "endless"})

    def test_words_that_are_not_live(self):
        chance = random.Random(366)
        found = 0
        for _ in range(60):
            market = barring_market(chance)
            claim, told = random_claim(chance, market, 0, 2), Told(market)
            ring = owing_ring(market, claim)
            if ring is None:
                continue
            live = {stand: told.live(stand) for stand in told.leads}
            for word in told.all_words(3):
                passed = told.passed(word)
                right = passed[-1] in ring
                alive = all(letter in live[at] for letter, at in zip(word, passed))
                self.assertIs(is_trail(market, claim, told.first, (word, ring)), right)
                self.assertIs(is_lead(market, claim, told.first, (word, ring)), right and alive)
                found += right and not alive
        self.assertGreater(found, 20)


if __name__ == "__main__":
    unittest.main()
