import random
import unittest
from fractions import Fraction
from itertools import combinations

from helper import ODD_VALUES, fraction, is_same, raised
from judges import Told, made_odd, spoiled
from test_folded import SWING
from test_lengths import DUE, ENDED, HALF, OTHER_CLAIMS, START, WAIT
from test_together import CLAIMS, MUTE, group_cases

from heardquotes.boards import Board
from heardquotes.claims import Claim
from heardquotes.flows import flow_worth
from heardquotes.folded import cover
from heardquotes.machines import Machine
from heardquotes.markets import Market
from heardquotes.ratios import Ratio
from heardquotes.shares import groups, is_shares_paper, shares, shares_paper
from heardquotes.together import own_covers, saved, together

ALL = ((0, 1, 2), 0)
PAPER = ({ALL: (1, {})}, {ALL: 1})
# By a or b, each as likely, to where the one or the other has more due.
FORK = Market(Machine(3, [(0, "a", 1), (0, "b", 2)], [0]), "ab", Board([[({"a": 1, "b": 0}, HALF, HALF)]]))
ROOT, LEFT, RIGHT = [((place,), 0) for place in range(3)]
TWO = [Claim({0: 1, 1: 6}), Claim({1: 2, 2: 4}, {"b": 1})]
FORKED = ({ROOT: (0, {"a": HALF, "b": HALF}), LEFT: (HALF, {}), RIGHT: (HALF, {})}, {LEFT: 1, RIGHT: 2})


def total(claims):
    whole = Claim({})
    for claim in claims:
        whole = whole + claim
    return whole


class Papers(unittest.TestCase):
    def test_examples(self):
        self.assertTrue(is_same(shares_paper(market=MUTE, claims=CLAIMS), ({ALL: (Ratio(1), {})}, {ALL: 1})))
        for market, claims, value in ((MUTE, CLAIMS, PAPER), (MUTE, tuple(CLAIMS), PAPER), (FORK, TWO, FORKED)):
            self.assertIs(is_shares_paper(market=market, claims=claims, value=value), True)
        self.assertIs(is_shares_paper(FORK, TWO, shares_paper(FORK, TWO)), True)
        backwards = tuple(dict(list(part.items())[::-1]) for part in FORKED)
        for value in (backwards, (FORKED[0], backwards[1]), (backwards[0], FORKED[1])):
            self.assertIs(is_shares_paper(FORK, TWO, value), True)
            self.assertTrue(is_same(shares(FORK, TWO, value), shares(FORK, TWO, FORKED)))
        self.assertIsNone(shares_paper(SWING, [Claim({0: 1}, {"a": 1})]))

    def test_values_that_are_none(self):
        flow, places = FORKED
        wrong = [[flow, places], (flow,), (flow, places, {}), (places, flow), (flow, {LEFT: 1}), (flow, {**places, ROOT: 0}), (flow, {}),
                 (flow, {LEFT: 1, RIGHT: 1}), (flow, {LEFT: 2, RIGHT: 2}), (flow, {LEFT: True, RIGHT: 2}), (flow, {LEFT: [1], RIGHT: 2}),
                 (flow, {LEFT: None, RIGHT: 2}), (flow, {LEFT: 1, RIGHT: 7}), (flow, {LEFT: 1, RIGHT: 8}), (flow, {LEFT: 1, RIGHT: -1}),
                 (flow, list(places.items())), (flow, None), (None, places), ({ROOT: (1, {})}, {ROOT: 0}), (flow, {1: 1, 2: 2}),
                 (flow, {((True,), 0): 1, RIGHT: 2}), ({**flow, LEFT: (1, {})}, places), (flow, {**places, ((1, 2), 0): 1})]
        for value in [*ODD_VALUES, *wrong]:
            self.assertIs(is_shares_paper(FORK, TWO, value), False, value)
            self.assertEqual(raised(shares, FORK, TWO, value), ("InvalidPaper", value))
            self.assertEqual(raised(groups, FORK, TWO, value), ("InvalidPaper", value))

    def test_where_the_most_is_due(self):
        """The place is one where the sum of all dues is greatest, not those of one claim."""
        claims = [Claim({0: 5, 1: 4}), Claim({1: 2, 2: 3}), Claim({2: 3})]
        for place in range(3):
            self.assertIs(is_shares_paper(MUTE, claims, ({ALL: (1, {})}, {ALL: place})), place > 0)
        self.assertTrue(is_same([shares(MUTE, claims, ({ALL: (1, {})}, {ALL: place})) for place in (1, 2)],
                                [[Ratio(4), Ratio(2), Ratio(0)], [Ratio(0), Ratio(3), Ratio(3)]]))

    def test_a_flow_that_is_worth_less(self):
        loop = Market(Machine(2, [(0, "a", 0), (0, "a", 1)], [0]), "a", Board([[]]))
        start, then = ((0,), 0), ((0, 1), 0)
        claims = [Claim({0: 1}), Claim({1: 2})]
        self.assertEqual(together(loop, claims), Ratio(2))
        self.assertIs(is_shares_paper(loop, claims, ({start: (0, {"a": 1}), then: (1, {})}, {then: 1})), True)
        self.assertIs(is_shares_paper(loop, claims, ({start: (1, {})}, {start: 0})), False)
        self.assertIs(is_shares_paper(loop, claims, ({start: (Ratio(1, 9), {"a": Ratio(8, 9)}), then: (Ratio(8, 9), {})}, {start: 0, then: 1})), False)
        self.assertIs(is_shares_paper(loop, claims, ({start: (0, {"a": 1}), then: (1, {"a": 5})}, {then: 1})), True)

    def test_where_the_sum_has_no_cover(self):
        owing = [Claim({0: 1}, {"a": 1})]
        for value in (None, ({((0,), 0): (1, {})}, {((0,), 0): 0})):
            self.assertIs(is_shares_paper(SWING, owing, value), False)
            self.assertEqual(raised(shares, SWING, owing, value), ("InvalidPaper", value))

    def test_wrong_by_one_thing(self):
        chance = random.Random(741)
        verdicts = []
        for market, claims in group_cases(chance, 120):
            paper, told, whole = shares_paper(market, claims), Told(market), total(claims)
            if paper is None:
                continue
            for _ in range(6):
                other = spoiled(chance, paper, [*told.leads, *"abc"])
                verdicts.append(is_right(told, whole, cover(market, whole), other))
                self.assertIs(is_shares_paper(market, claims, other), verdicts[-1], (market, claims, other))
                self.assertIs(is_shares_paper(market, claims, made_odd(chance, paper)), False)
        self.assertGreater(verdicts.count(True), 5)
        self.assertGreater(verdicts.count(False), 150)


def is_right(told, whole, least, value):
    flow, places = value
    if not told.is_folded_flow(flow) or told.worth(whole, flow) != fraction(least):
        return False
    if set(places) != {stand for stand in flow if fraction(flow[stand][0]) > 0}:
        return False
    return all(isinstance(place, int) and place in stand[0] and fraction(whole.due(place)) == told.floor(whole, stand)
               for stand, place in places.items())


class Shares(unittest.TestCase):
    def test_examples(self):
        self.assertTrue(is_same(shares(market=MUTE, claims=CLAIMS, paper=PAPER), [Ratio(6), Ratio(0)]))
        self.assertTrue(is_same(shares(FORK, TWO, FORKED), [Ratio(3), Ratio(7, 2)]))
        self.assertTrue(is_same(shares(WAIT, [DUE], ({START: (0, {"a": 1, "b": 1}), ENDED: (1, {})}, {ENDED: 1})), [Ratio(3)]))

    def test_below_0(self):
        claims = [Claim({1: 9, 2: 9}), Claim({}, {"a": -3, "b": -1})]
        self.assertTrue(is_same(shares(FORK, claims, FORKED), [Ratio(9), Ratio(-2)]))
        self.assertEqual(own_covers(FORK, claims), [Ratio(9), Ratio(0)])
        self.assertEqual(saved(FORK, claims), Ratio(2))

    def test_groups(self):
        self.assertTrue(is_same(groups(market=MUTE, claims=CLAIMS, paper=PAPER), [
            ((0,), Ratio(6), Ratio(6)), ((0, 1), Ratio(6), Ratio(6)), ((1,), Ratio(0), Ratio(3))]))
        self.assertTrue(is_same(groups(WAIT, [DUE], ({START: (0, {"a": 1, "b": 1}), ENDED: (1, {})}, {ENDED: 1})), [((0,), Ratio(3), Ratio(3))]))
        owing = [Claim({0: 1}, {"a": 1}), Claim({0: 2}, {"a": -1})]
        self.assertTrue(is_same(groups(SWING, owing, ({((0,), 0): (1, {})}, {((0,), 0): 0})), [
            ((0,), Ratio(1), None), ((0, 1), Ratio(3), Ratio(3)), ((1,), Ratio(2), Ratio(2))]))

    def test_groups_of_four(self):
        claims = [Claim({1: 1}), Claim({2: 1}), Claim({1: 2}), Claim({2: 1, 0: 9})]
        told = groups(MUTE, claims, shares_paper(MUTE, claims))
        self.assertEqual([group for group, _, _ in told], sorted(
            chosen for size in range(1, 5) for chosen in combinations(range(4), size)))

    def test_by_chance(self):
        chance = random.Random(742)
        less = below = 0
        for market, claims in group_cases(chance, 120, 4):
            paper, whole = shares_paper(market, claims), total(claims)
            self.assertEqual(paper is None, cover(market, whole) is None)
            if paper is None:
                continue
            told = Told(market)
            self.assertTrue(is_right(told, whole, cover(market, whole), paper))
            self.assertIs(is_shares_paper(market, claims, paper), True)
            flow, places = paper
            self.assertEqual((list(flow), list(places)), (sorted(flow), sorted(places)))
            self.assertEqual(flow_worth(market, whole, flow), cover(market, whole))
            paid = [fraction(part) for part in shares(market, claims, paper)]
            for claim, part in zip(claims, paid):
                right = sum(fraction(flow[stand][0]) * fraction(claim.due(place)) for stand, place in places.items())
                right += sum(fraction(weight) * fraction(claim.toll(letter)) for _, weights in flow.values() for letter, weight in weights.items())
                self.assertEqual(part, right)
            self.assertEqual(sum(paid), fraction(cover(market, whole)))
            below += min(paid) < 0
            table = groups(market, claims, paper)
            self.assertEqual(len(table), 2 ** len(claims) - 1)
            for group, pays, least in table:
                self.assertEqual(fraction(pays), sum((paid[at] for at in group), Fraction(0)))
                self.assertEqual(least, together(market, [claims[at] for at in group]))
                self.assertTrue(least is None or pays.is_at_most(least))
                less += least is not None and pays.is_below(least)
            alone = own_covers(market, claims)
            if None not in alone:
                self.assertEqual(saved(market, claims) == Ratio(0), [fraction(least) for least in alone] == paid)
        self.assertGreater(less, 10)
        self.assertGreater(below, 1)


class Errors(unittest.TestCase):
    def test_the_first_error_of_the_sequence(self):
        calls = ((shares_paper, []), (is_shares_paper, [None]), (shares, [None]), (groups, [None]))
        for call, rest in calls:
            for value, position in ((None, None), ([], None), ((), None), ([Claim({7: 1}), True], 1), ([0], 0), ("ab", None)):
                self.assertEqual(raised(call, WAIT, value, *rest), ("InvalidClaims", position))
            for claim, error in OTHER_CLAIMS:
                self.assertEqual(raised(call, WAIT, [DUE, DUE, DUE, DUE, claim], *rest), error)
            self.assertEqual(raised(call, WAIT, [DUE] * 5, *rest), ("TooMany", "claims", 4))
        self.assertIs(is_shares_paper(WAIT, [DUE] * 4, shares_paper(WAIT, [DUE] * 4)), True)

    def test_what_is_passed_or_told_may_be_changed(self):
        shares(FORK, TWO, FORKED)
        shares_paper(FORK, TWO)[0].clear()
        self.assertTrue(is_same(FORKED, ({ROOT: (0, {"a": HALF, "b": HALF}), LEFT: (HALF, {}), RIGHT: (HALF, {})}, {LEFT: 1, RIGHT: 2})))
        self.assertIs(is_shares_paper(FORK, TWO, shares_paper(FORK, TWO)), True)


if __name__ == "__main__":
    unittest.main()
