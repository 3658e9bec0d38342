import random
import unittest
from fractions import Fraction

from helper import ODD_VALUES, fraction, is_same, raised
from judges import Told, made_odd, random_market, random_quote, spoiled
from machinery import random_number
from test_markets import BOARD, LAST, MACHINE, MARKET, START, WRONG_STANDS

from heardquotes.boards import Board
from heardquotes.machines import Machine
from heardquotes.markets import Market, stands
from heardquotes.moments import does_reach, fair_weights, free_cover, is_fair, is_free_cover, is_sure, live_letters
from heardquotes.moments import reach, reaching, sure_gain, weights_with, worths
from heardquotes.quotes import is_position
from heardquotes.ratios import Ratio

THREE = Machine(4, [(0, "a", 1), (0, "b", 2), (0, "c", 3)], [0])
FIRST = ((0,), 0)
ENDED = ((1,), 0)
HALF, THIRD = Ratio(1, 2), Ratio(1, 3)


def three(*quotes):
    """A market that says a, b or c, with these quotes."""
    return Market(THREE, "abc", Board([list(quotes)]))


ASK_ALONE = three(({"a": 1, "b": 0, "c": 0}, None, HALF))
BID_ALONE = three(({"a": 1, "b": 0, "c": 0}, HALF, None))
CALLED_OFF = three(({"a": 1, "b": 0}, THIRD, THIRD))
NO_QUOTES = three()
BARRING = three(({"a": 1, "b": 0, "c": 0}, None, 0))
SURE = three(({"a": 2, "b": 2, "c": 3}, 0, 1))
# More quotes than letters, each with a price of its own: just one fair weighting is left.
MANY = three(({"a": 2, "b": 0, "c": 0}, 1, 1), ({"a": 0, "b": 4, "c": 0}, 1, 2), ({"a": 0, "b": 0, "c": 4}, 1, None),
             ({"a": 1, "b": 1, "c": 1}, 1, 1))
MARKETS = [ASK_ALONE, BID_ALONE, CALLED_OFF, NO_QUOTES, BARRING, SURE, MANY]


def all_stands(chance, rounds):
    for _ in range(rounds):
        market = random_market(chance)
        told = Told(market)
        for stand in stands(market):
            yield market, told, stand


def random_coins(chance, letters):
    return {letter: random_number(chance, -4, 4) for letter in letters}


def as_fractions(weights):
    return None if weights is None else {letter: fraction(weights[letter]) for letter in weights}


class FairOrSure(unittest.TestCase):
    def test_examples(self):
        self.assertTrue(is_same(fair_weights(market=MARKET, stand=START), {"a": THIRD, "b": Ratio(2, 3)}))
        self.assertIsNone(sure_gain(market=MARKET, stand=START))
        self.assertTrue(is_same(fair_weights(MARKET, LAST), {"a": Ratio(0), "b": Ratio(1)}))
        for market in (ASK_ALONE, BID_ALONE, CALLED_OFF, NO_QUOTES, BARRING):
            self.assertTrue(is_fair(market, FIRST, fair_weights(market, FIRST)))
            self.assertIsNone(sure_gain(market, FIRST))
        self.assertIsNone(fair_weights(SURE, FIRST))
        self.assertTrue(is_sure(SURE, FIRST, sure_gain(SURE, FIRST)))

    def test_just_one_of_both(self):
        chance = random.Random(311)
        kinds = set()
        for market, told, stand in all_stands(chance, 60):
            weights, gain = fair_weights(market, stand), sure_gain(market, stand)
            corners = told.corners(stand)
            self.assertEqual((weights is None, gain is None), (not corners, bool(corners)))
            if weights is None:
                self.assertTrue(told.can_hold(stand, gain) and all(isinstance(part, Ratio) for part in gain))
                self.assertGreater(min(told.gains(stand, gain).values(), default=1), 0)
                self.assertIs(is_sure(market, stand, gain), True)
            else:
                self.assertEqual(list(weights), list(told.leads[stand]))
                self.assertEqual((sum(map(fraction, weights.values())), told.are_fair(stand, weights)), (1, True))
                self.assertGreaterEqual(min(map(fraction, weights.values())), 0)
                self.assertIs(is_fair(market, stand, weights), True)
            kinds.add((weights is None, not told.leads[stand]))
        self.assertEqual(kinds, {(True, True), (True, False), (False, False)})

    def test_without_next_letters(self):
        self.assertIsNone(fair_weights(ASK_ALONE, ENDED))
        self.assertTrue(is_same(sure_gain(ASK_ALONE, ENDED), [Ratio(0)]))
        self.assertIs(is_fair(ASK_ALONE, ENDED, {}), False)
        for value in ([0], [5], (Ratio(1, 9),)):
            self.assertIs(is_sure(ASK_ALONE, ENDED, value), True)
            self.assertIs(is_free_cover(ASK_ALONE, ENDED, value), True)
        for value in ([-1], [], [0, 0], [True], None):
            self.assertIs(is_sure(ASK_ALONE, ENDED, value), False)
            self.assertIs(is_free_cover(ASK_ALONE, ENDED, value), False)
        self.assertEqual(live_letters(ASK_ALONE, ENDED), "")
        self.assertTrue(is_position(ASK_ALONE.board, 0, free_cover(ASK_ALONE, ENDED)))

    def test_which_values_are_fair(self):
        for value in ({"a": THIRD, "b": Ratio(2, 3)}, {"b": Ratio(4, 6), "a": THIRD}):
            self.assertIs(is_fair(market=MARKET, stand=START, value=value), True)
        self.assertIs(is_fair(MARKET, LAST, {"a": 0, "b": 1}), True)
        for value in [*ODD_VALUES, {"a": False, "b": True}, {"a": 0, "b": True}, {"a": 0}, {"b": 1}, {"a": HALF, "b": HALF},
                      {"a": 0, "b": 1, "c": 0}, {"a": -1, "b": 2}, {"a": 1, "b": 0}, {"a": 0, "b": "1"}, [0, 1],
                      {"a": 0, "b": Ratio(1, 2)}, {"a": 0, "b": 2}, {0: 0, 1: 1}, {"a": 0, True: 1}, "ab"]:
            self.assertIs(is_fair(MARKET, LAST, value), False, value)
        self.assertIs(is_fair(BID_ALONE, FIRST, {"a": Ratio(49, 100), "b": 0, "c": Ratio(51, 100)}), False)
        self.assertIs(is_fair(ASK_ALONE, FIRST, {"a": Ratio(49, 100), "b": 0, "c": Ratio(51, 100)}), True)
        self.assertIs(is_fair(ASK_ALONE, FIRST, {"a": Ratio(51, 100), "b": 0, "c": Ratio(49, 100)}), False)
        self.assertIs(is_fair(CALLED_OFF, FIRST, {"a": 0, "b": 0, "c": 1}), True)
        self.assertIs(is_fair(CALLED_OFF, FIRST, {"a": Ratio(1, 6), "b": THIRD, "c": HALF}), True)
        self.assertIs(is_fair(CALLED_OFF, FIRST, {"a": Ratio(1, 6), "b": HALF, "c": THIRD}), False)

    def test_which_values_are_sure(self):
        for value in ([1], (HALF,)):
            self.assertIs(is_sure(market=SURE, stand=FIRST, value=value), True)
        for value in [*ODD_VALUES, [0], [-1], [1, 1], [True], ["1"], {0: 1}, 1]:
            self.assertIs(is_sure(SURE, FIRST, value), False, value)
        self.assertIs(is_sure(three(({"a": 2, "b": 2, "c": 1}, 0, 1)), FIRST, [1]), False)

    def test_wrong_by_one_thing(self):
        chance = random.Random(312)
        for market, told, stand in all_stands(chance, 60):
            weights = fair_weights(market, stand)
            if weights is not None:
                other = spoiled(chance, weights, "abcd")
                right = list(sorted(other)) == list(told.leads[stand]) and told.are_fair(stand, other) \
                    and min(map(fraction, other.values())) >= 0 and sum(map(fraction, other.values())) == 1
                self.assertIs(is_fair(market, stand, other), right)
                self.assertIs(is_fair(market, stand, made_odd(chance, weights)), False)


class Live(unittest.TestCase):
    def test_examples(self):
        self.assertEqual([live_letters(market, FIRST) for market in MARKETS],
                         ["abc", "abc", "abc", "abc", "bc", "", "abc"])
        self.assertEqual(live_letters(market=MARKET, stand=LAST), "b")
        self.assertTrue(is_same(weights_with(market=MARKET, stand=LAST, letter="b"), {"a": Ratio(0), "b": Ratio(1)}))
        self.assertIsNone(weights_with(MARKET, LAST, "a"))
        self.assertIsNone(weights_with(MARKET, LAST, "c"))
        self.assertIsNone(weights_with(SURE, FIRST, "a"))
        self.assertIs(is_free_cover(market=MARKET, stand=LAST, value=[2]), True)
        self.assertIs(is_free_cover(MARKET, LAST, [0]), False)
        self.assertIs(is_free_cover(NO_QUOTES, FIRST, []), True)
        self.assertIs(is_free_cover(ASK_ALONE, FIRST, [0]), True)
        self.assertIs(is_free_cover(ASK_ALONE, FIRST, [1]), False)
        self.assertIs(is_free_cover(SURE, FIRST, [1]), True)
        for value in [*ODD_VALUES, [True], [-1], [1, 1], {0: 2}]:
            self.assertIs(is_free_cover(MARKET, LAST, value), False, value)

    def test_against_the_corners_of_the_fair_weights(self):
        chance = random.Random(313)
        barred = 0
        for market, told, stand in all_stands(chance, 60):
            live = told.live(stand)
            self.assertEqual(live_letters(market, stand), live)
            for letter in "abc":
                weights = weights_with(market, stand, letter)
                self.assertEqual(weights is not None, letter in live)
                if weights is not None:
                    self.assertIs(is_fair(market, stand, weights), True)
                    self.assertEqual(weights[letter].sign, 1)
            cover = free_cover(market, stand)
            self.assertIs(is_free_cover(market, stand, cover), True)
            self.assertTrue(told.can_hold(stand, cover))
            for letter, gained in told.gains(stand, cover).items():
                self.assertTrue(gained > 0 or gained == 0 and letter in live)
                barred += letter not in live
            other = spoiled(chance, [*cover, 0])[:-1]
            free = told.can_hold(stand, other) and all(
                gained > 0 or gained == 0 and letter in live for letter, gained in told.gains(stand, other).items())
            self.assertIs(is_free_cover(market, stand, other), free)
        self.assertGreater(barred, 20)

    def test_a_letter_in_no_pays_is_live(self):
        chance = random.Random(314)
        for market, told, stand in all_stands(chance, 40):
            paid = {letter for pays, _, _ in market.board.quotes(stand[1]) for letter in pays}
            for letter in told.leads[stand]:
                if letter not in paid:
                    self.assertIn(letter, live_letters(market, stand))


class Reach(unittest.TestCase):
    def test_examples(self):
        self.assertEqual(reach(market=MARKET, stand=START, coins={"a": 6, "b": 0}), Ratio(2))
        self.assertTrue(is_same(reaching(market=MARKET, stand=START, coins={"a": 6, "b": 0}), [Ratio(6)]))
        self.assertTrue(is_same(worths(market=ASK_ALONE, stand=FIRST, coins={"a": 4, "b": 0, "c": 1}),
                                (Ratio(0), Ratio(5, 2))))
        self.assertTrue(is_same(worths(BID_ALONE, FIRST, {"a": 4, "b": 0, "c": 1}), (Ratio(2), Ratio(4))))
        self.assertTrue(is_same(worths(NO_QUOTES, FIRST, {"a": 4, "b": -7, "c": 1}), (Ratio(-7), Ratio(4))))
        self.assertTrue(is_same(worths(MANY, FIRST, {"a": 4, "b": -2, "c": 1}), (Ratio(7, 4), Ratio(7, 4))))
        self.assertIsNone(worths(SURE, FIRST, {"a": 4, "b": -2, "c": 1}))
        self.assertIsNone(reach(SURE, FIRST, {"a": 4, "b": -2, "c": 1}))
        self.assertIsNone(reach(ASK_ALONE, ENDED, {}))
        self.assertIsNone(worths(ASK_ALONE, ENDED, {}))
        self.assertTrue(is_same(reaching(NO_QUOTES, FIRST, {"a": 4, "b": -2, "c": 1}), []))

    def test_by_chance(self):
        chance = random.Random(315)
        for market, told, stand in all_stands(chance, 60):
            coins = random_coins(chance, told.leads[stand])
            least = reach(market, stand, coins)
            position = reaching(market, stand, coins)
            self.assertEqual(None if least is None else fraction(least), told.reach(stand, coins))
            self.assertTrue(all(isinstance(part, Ratio) for part in position))
            begin = Fraction(0) if least is None else fraction(least)
            self.assertTrue(told.can_hold(stand, position))
            gains = told.gains(stand, position)
            self.assertTrue(all(begin + gains[letter] >= fraction(coins[letter]) for letter in gains))
            number = 0 if least is None else least
            self.assertIs(does_reach(market, stand, number, coins, position), True)
            for less in (Ratio.total([number, Ratio(-1, 1000)]), Ratio.total([number, 3])):
                right = all(fraction(less) + gains[letter] >= fraction(coins[letter]) for letter in gains)
                self.assertIs(does_reach(market, stand, less, coins, position), right)
            pair = worths(market, stand, coins)
            if least is None:
                self.assertIsNone(pair)
            else:
                lowest = told.reach(stand, {letter: -fraction(coins[letter]) for letter in coins})
                self.assertEqual((fraction(pair[0]), fraction(pair[1])), (-lowest, fraction(least)))

    def test_which_values_reach(self):
        coins = {"b": 0, "a": 6}
        self.assertIs(does_reach(market=MARKET, stand=START, number=2, coins=coins, value=[6]), True)
        self.assertIs(does_reach(MARKET, START, Ratio(2), coins, (Ratio(12, 2),)), True)
        self.assertIs(does_reach(MARKET, START, Ratio(19, 10), coins, [6]), False)
        self.assertIs(does_reach(MARKET, START, -5, {"a": -6, "b": -5}, [0]), True)
        self.assertIs(does_reach(MARKET, START, -5, {"a": -6, "b": -5}, [1]), False)
        self.assertIs(does_reach(MARKET, START, -5, {"a": -6, "b": -6}, [0]), True)
        for value in [*ODD_VALUES, [], [6, 0], [Ratio(59, 10)], ["6"], {0: 6}, 6]:
            self.assertIs(does_reach(MARKET, START, 2, coins, value), False, value)
        self.assertIs(does_reach(ASK_ALONE, ENDED, -9, {}, [0]), True)
        self.assertIs(does_reach(ASK_ALONE, ENDED, -9, {}, [-1]), False)

    def test_a_quote_more(self):
        chance = random.Random(316)
        seen = set()
        for market, told, stand in all_stands(chance, 60):
            coins = random_coins(chance, told.leads[stand])
            pair = worths(market, stand, coins)
            if pair is None or any(other != stand and other[1] == stand[1] for other in told.leads):
                continue
            least, most = map(fraction, pair)
            for price in {least, most, (least + most) / 2, least - 1, most + 1, most + Fraction(1, 1000)}:
                number = Ratio(price.numerator, price.denominator)
                more = market.with_board(market.board.with_quote(stand[1], (coins, number, number)))
                self.assertEqual(fair_weights(more, stand) is not None, least <= price <= most)
                seen.add(least <= price <= most)
        self.assertEqual(seen, {True, False})

    def test_boards_beside(self):
        chance = random.Random(317)
        for _ in range(40):
            quotes = [random_quote(chance, "abc") for _ in range(3)]
            one, other = three(*quotes[:2]), three(*quotes[2:])
            both = one.with_board(one.board.beside(other.board))
            corners = Told(both).corners(FIRST)
            for weights in corners:
                told = {letter: Ratio(part.numerator, part.denominator) for letter, part in weights.items()}
                self.assertTrue(is_fair(one, FIRST, told) and is_fair(other, FIRST, told))
            coins = random_coins(chance, "abc")
            if corners:
                self.assertTrue(reach(both, FIRST, coins).is_at_most(reach(one, FIRST, coins)))
            self.assertLessEqual(set(live_letters(both, FIRST)), set(live_letters(one, FIRST)))


class Wrong(unittest.TestCase):
    def test_stands(self):
        wrong = [value for value in WRONG_STANDS if value not in ([], ((2,), 0))]
        for call, rest in ((fair_weights, []), (is_fair, [None]), (sure_gain, []), (is_sure, [None]), (live_letters, []),
                           (weights_with, [None]), (free_cover, []), (is_free_cover, [None]), (reach, [None]),
                           (reaching, [None]), (does_reach, [None, None, None]), (worths, [None])):
            for value in wrong:
                self.assertEqual(raised(call, MARKET, value, *rest), ("InvalidStand", value), value)

    def test_letters(self):
        for value in [*ODD_VALUES, "ab", 3]:
            self.assertEqual(raised(weights_with, MARKET, START, value), ("InvalidLetter", value))

    def test_numbers_and_coins(self):
        for value in [*ODD_VALUES, "1"]:
            self.assertEqual(raised(does_reach, MARKET, START, value, None, None), ("InvalidNumber", value))
        for value in [*ODD_VALUES, {"a": 1}, {"a": 1, "b": 1, "c": 0}, {"a": 1, "b": True}, {"a": 1, "b": None}, [1, 2],
                      {"a": 1, 0: 1}, {"a": 1, "b": "0"}, {"a": 1, None: 1}, "ab", {"a": 1, "c": 1}]:
            self.assertEqual(raised(reach, MARKET, START, value), ("InvalidCoins", value))
            self.assertEqual(raised(reaching, MARKET, START, value), ("InvalidCoins", value))
            self.assertEqual(raised(worths, MARKET, START, value), ("InvalidCoins", value))
            self.assertEqual(raised(does_reach, MARKET, START, 0, value, None), ("InvalidCoins", value))
        self.assertEqual(raised(reach, ASK_ALONE, ENDED, {"a": 1}), ("InvalidCoins", {"a": 1}))

    def test_what_is_passed_does_not_change(self):
        coins, position = {"b": 0, "a": 6}, [6]
        reach(MARKET, START, coins), reaching(MARKET, START, coins), worths(MARKET, START, coins)
        does_reach(MARKET, START, 2, coins, position)
        self.assertTrue(is_same([coins, position], [{"b": 0, "a": 6}, [6]]))
        fair_weights(MARKET, START).clear()
        self.assertEqual(len(fair_weights(MARKET, START)), 2)

    def test_repeated_calls_are_equal(self):
        again = Market(MACHINE, "abc", Board([BOARD.quotes(state) for state in range(2)], BOARD.turns()))
        for stand in stands(MARKET):
            for call in (fair_weights, sure_gain, live_letters, free_cover):
                self.assertTrue(is_same(call(MARKET, stand), call(again, stand)))


if __name__ == "__main__":
    unittest.main()
