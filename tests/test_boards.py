import random
import unittest

from helper import ODD_VALUES, fraction, is_same, raised
from machinery import random_number

from heardquotes.boards import Board
from heardquotes.quotes import gain, is_position, is_quote
from heardquotes.ratios import Ratio

HALF = Ratio(1, 2)
ASKED = ({"a": 1, "b": 0}, None, HALF)
BOTH = ({"a": 2, "c": -1}, Ratio(1, 3), 1)
SOLD = ({"b": 3}, -2, None)
BOARD = Board([[ASKED, BOTH, SOLD], [], [BOTH]], {(0, "b"): 1, (1, "d"): 2, (2, "e"): 2})
WRONG_QUOTES = [*ODD_VALUES, [{"a": 1}, 0, 1], ({"a": 1}, 0), ({"a": 1}, 0, 1, 1), ({}, 0, 1), ({"a": 1}, None, None),
                ({"a": 1}, 2, 1), ({"a": 1}, HALF, Ratio(1, 3)), ({"A": 1}, 0, 1), ({"": 1}, 0, 1), ({"ab": 1}, 0, 1),
                ({"a": None}, 0, 1), ({"a": 1, "b": True}, 0, 1), ({"a": 1}, False, 1), ({"a": 1}, 0, True), ({"a": 1}, "0", 1),
                ({True: 1}, 0, 1), ({0: 1}, 0, 1), ([("a", 1)], 0, 1), ({"a": 1, None: 1}, 0, 1), (None, 0, 1), 3]


class Quotes(unittest.TestCase):
    def test_which_values_are_quotes(self):
        for value in (ASKED, BOTH, SOLD, ({"z": 0}, 0, 0), ({"z": Ratio(-1, 3)}, -1, Ratio(-1)), ({"a": 1}, None, -5)):
            self.assertIs(is_quote(value), True)
        for value in WRONG_QUOTES:
            self.assertIs(is_quote(value), False, value)
        self.assertIs(is_quote(value=ASKED), True)

    def test_which_values_are_positions(self):
        for value in ([0, 0, 0], (1, HALF, -3), [0, -1, 0], [Ratio(0), 5, Ratio(-1, 7)]):
            self.assertIs(is_position(BOARD, 0, value), True)
        for value in [*ODD_VALUES, [0, 0], [0, 0, 0, 0], [-1, 0, 0], [Ratio(-1, 9), 0, 0], [0, 0, 1], [0, 0, HALF],
                      [0, True, 0], [0, None, 0], {0: 0, 1: 0, 2: 0}, "000", [[0], [0], [0]]]:
            self.assertIs(is_position(BOARD, 0, value), False, value)
        self.assertIs(is_position(board=BOARD, state=1, value=[]), True)
        self.assertIs(is_position(BOARD, 1, ()), True)
        self.assertIs(is_position(BOARD, 1, [0]), False)
        for value in [*ODD_VALUES, 3, -1, Ratio(0)]:
            self.assertEqual(raised(is_position, BOARD, value, None), ("InvalidState", value))

    def test_gains(self):
        cases = [([2, 0, 0], "a", Ratio(1)), ([2, 0, 0], "b", Ratio(-1)), ([2, 0, 0], "c", Ratio(0)),
                 ([0, 3, 0], "a", Ratio(3)), ([0, 3, 0], "c", Ratio(-6)), ([0, 3, 0], "b", Ratio(0)),
                 ([0, -3, 0], "a", Ratio(-5)), ([0, -3, 0], "c", Ratio(4)), ([0, -3, 0], "z", Ratio(0)),
                 ([0, 0, -2], "b", Ratio(-10)), ([0, 0, -2], "a", Ratio(0)), ([HALF, -1, -1], "b", Ratio(-21, 4)),
                 ((1, Ratio(-1, 2), 0), "a", Ratio(-1, 3))]
        for position, letter, worth in cases:
            self.assertTrue(is_same(gain(BOARD, 0, position, letter), worth), (position, letter))
        self.assertTrue(is_same(gain(board=BOARD, state=1, position=[], letter="a"), Ratio(0)))

    def test_wrong_gains(self):
        for value in [*ODD_VALUES, 3, -1, Ratio(0)]:
            self.assertEqual(raised(gain, BOARD, value, None, None), ("InvalidState", value))
        for value in [None, [0, 0], [-1, 0, 0], [0, 0, 1], [True, 0, 0], 3]:
            self.assertEqual(raised(gain, BOARD, 0, value, None), ("InvalidPosition", value))
        for value in [*ODD_VALUES, "ab", 3]:
            self.assertEqual(raised(gain, BOARD, 0, [0, 0, 0], value), ("InvalidLetter", value))

    def test_multiples_and_sums_of_positions(self):
        chance = random.Random(41)
        for _ in range(80):
            one, other = ([random_number(chance, 0, 3), random_number(chance), random_number(chance, -3, 0)]
                          for _ in range(2))
            times = random_number(chance, 0, 4)
            for letter in "abcd":
                mine, yours = gain(BOARD, 0, one, letter), gain(BOARD, 0, other, letter)
                self.assertEqual(gain(BOARD, 0, [number * times for number in one], letter), mine * times)
                both = [Ratio.total(pair) for pair in zip(one, other)]
                self.assertGreaterEqual(fraction(gain(BOARD, 0, both, letter)), fraction(mine + yours))

    def test_what_is_passed_does_not_change(self):
        position = [1, 2, -1]
        gain(BOARD, 0, position, "a")
        self.assertTrue(is_same(position, [1, 2, -1]))


class Boards(unittest.TestCase):
    def test_parts(self):
        self.assertEqual((BOARD.states, BOARD.letters), (3, "abcd"))
        self.assertTrue(is_same(BOARD.quotes(0), [({"a": Ratio(1), "b": Ratio(0)}, None, HALF),
                                                  ({"a": Ratio(2), "c": Ratio(-1)}, Ratio(1, 3), Ratio(1)),
                                                  ({"b": Ratio(3)}, Ratio(-2), None)]))
        self.assertTrue(is_same(BOARD.quotes(state=1), []))
        self.assertTrue(is_same(BOARD.turns(), {(0, "b"): 1, (1, "d"): 2}))
        self.assertTrue(is_same(Board([[]]).turns(), {}))
        self.assertEqual((Board([[]]).letters, Board.MOST_STATES, Board.MOST_QUOTES), ("", 4, 4))

    def test_tuples_and_the_order_of_keys(self):
        one = Board(turns={(1, "b"): 0, (0, "a"): 1}, rows=((({"b": 1, "a": 2}, 0, 1),), ()))
        other = Board([[({"a": Ratio(2), "b": 1}, Ratio(0), 1)], []], {(0, "a"): 1, (1, "b"): 0, (0, "c"): 0})
        self.assertIs(one == other, True)
        self.assertEqual(repr(one), repr(other))
        self.assertTrue(is_same(one.turns(), {(0, "a"): 1, (1, "b"): 0}))
        self.assertTrue(is_same(one.quotes(0)[0][0], {"a": Ratio(2), "b": Ratio(1)}))

    def test_wrong_rows(self):
        for value in [*ODD_VALUES, [[], [], [], [], []], "ab", {0: []}, 3]:
            expected = 0 if value in ([None], (None,)) else None
            self.assertEqual(raised(Board, value, 5), ("InvalidRows", expected))
        for value in [None, 3, {}, "a", ASKED, [ASKED] * 5, True]:
            self.assertEqual(raised(Board, [[], [ASKED] * 4, value, None], 5), ("InvalidRows", 2))
        for value in WRONG_QUOTES:
            self.assertEqual(raised(Board, [[ASKED], (BOTH, value)], 5), ("InvalidRows", 1))
        self.assertEqual(Board([[ASKED] * 4, [], [], []]).states, 4)
        self.assertEqual(Board([()]).states, 1)

    def test_wrong_turns(self):
        for value in [value for value in ODD_VALUES if value not in ({}, None)] + [
                {(0, "a"): 2}, {(2, "a"): 0}, {(0, "A"): 1}, {(0, ""): 1}, {(0, "ab"): 1}, {(0, "a"): True},
                {(False, "a"): 1}, {(0, "a"): None}, {(0,): 1}, {(0, "a", 1): 1}, {"a": 1}, {(-1, "a"): 0},
                {(0, "a"): 1, (0, 1): 1}, {("a", 0): 1}, [((0, "a"), 1)], {(0, "a"): -1}, {(0, "a"): "1"}]:
            self.assertEqual(raised(Board, [[], []], value), ("InvalidTurns", value))

    def test_then(self):
        self.assertEqual([BOARD.then(0, letter) for letter in "abz"], [0, 1, 0])
        self.assertEqual(BOARD.then(state=1, letter="d"), 2)
        self.assertEqual([BOARD.state_behind(word) for word in ("", "a", "b", "bd", "ddb", "bbadz")], [0, 0, 1, 2, 1, 2])
        self.assertEqual(BOARD.state_behind(word="bd"), 2)
        for value in [*ODD_VALUES, 3, -1, Ratio(1)]:
            self.assertEqual(raised(BOARD.then, value, None), ("InvalidState", value))
            self.assertEqual(raised(BOARD.quotes, value), ("InvalidState", value))
        for value in [*ODD_VALUES, "ab", 3]:
            self.assertEqual(raised(BOARD.then, 0, value), ("InvalidLetter", value))
        for value in [value for value in ODD_VALUES if value != ""] + ["a-", 3, ["a"]]:
            self.assertEqual(raised(BOARD.state_behind, value), ("InvalidWord", value))

    def test_turns_to_the_own_state_are_none(self):
        board = Board([[], []], {(0, "a"): 0, (1, "b"): 1})
        self.assertEqual((board.turns(), board.letters), ({}, ""))
        self.assertEqual(board, Board([[], []]))

    def test_with_and_without_a_quote(self):
        more = BOARD.with_quote(state=1, quote=SOLD)
        self.assertEqual(more, Board([[ASKED, BOTH, SOLD], [SOLD], [BOTH]], BOARD.turns()))
        self.assertEqual(more.without_quote(state=1, number=0), BOARD)
        self.assertEqual(BOARD.with_quote(0, SOLD).quotes(0), BOARD.quotes(0) + Board([[SOLD]]).quotes(0))
        self.assertEqual(BOARD.without_quote(0, 1).quotes(0), [BOARD.quotes(0)[at] for at in (0, 2)])
        full = BOARD.with_quote(0, ASKED)
        self.assertEqual(raised(full.with_quote, 0, ASKED), ("TooMany", "quotes", 4))
        for value in WRONG_QUOTES:
            self.assertEqual(raised(full.with_quote, 0, value), ("InvalidQuote", value))
        for value in [*ODD_VALUES, 3, -1, Ratio(0)]:
            self.assertEqual(raised(BOARD.with_quote, value, None), ("InvalidState", value))
            self.assertEqual(raised(BOARD.without_quote, value, None), ("InvalidState", value))
            self.assertEqual(raised(BOARD.without_quote, 0, value), ("InvalidNumber", value))
        self.assertEqual(raised(BOARD.without_quote, 1, 0), ("InvalidNumber", 0))

    def test_beside(self):
        one = Board([[ASKED], [BOTH]], {(0, "a"): 1})
        other = Board([[SOLD], []], {(0, "a"): 1, (1, "b"): 0})
        both = one.beside(other)
        self.assertEqual(both, Board([[ASKED, SOLD], [ASKED], [BOTH, SOLD], [BOTH]], {
            (0, "a"): 3, (1, "a"): 3, (1, "b"): 0, (2, "a"): 3, (3, "b"): 2}))
        self.assertEqual(other.beside(other=Board([[], []], {(1, "c"): 0})).turns(), {
            (0, "a"): 2, (1, "a"): 3, (1, "c"): 0, (2, "b"): 0, (3, "b"): 1, (3, "c"): 2})
        for value in [*ODD_VALUES, 3, repr(one)]:
            self.assertEqual(raised(one.beside, value), ("InvalidBoard", value))

    def test_beside_behind_each_word(self):
        chance = random.Random(42)
        for _ in range(40):
            sizes = chance.choice([(1, 4), (2, 2), (4, 1), (1, 3), (2, 1), (3, 1)])
            one, other = (Board([[] for _ in range(size)], {
                (state, letter): chance.randrange(size) for state in range(size) for letter in "abc"
                if chance.random() < 0.6}) for size in sizes)
            both = one.beside(other)
            for _ in range(20):
                word = "".join(chance.choice("abcd") for _ in range(chance.randint(0, 6)))
                self.assertEqual(both.state_behind(word), one.state_behind(word) * sizes[1] + other.state_behind(word))

    def test_beside_beyond_the_limits(self):
        three, two = Board([[ASKED] * 4, [], []]), Board([[], [SOLD]])
        self.assertEqual(raised(three.beside, two), ("TooMany", "states", 4))
        self.assertEqual(raised(two.beside, Board([[], [ASKED] * 4])), ("TooMany", "quotes", 4))
        self.assertEqual(two.beside(Board([[], [ASKED] * 3])).quotes(3)[0], Board([[SOLD]]).quotes(0)[0])
        self.assertEqual(Board([[], [], [], []]).beside(Board([[ASKED]])).states, 4)

    def test_multiples(self):
        self.assertEqual(BOARD * Ratio(3, 2), Board([
            [({"a": Ratio(3, 2), "b": 0}, None, Ratio(3, 4)), ({"a": 3, "c": Ratio(-3, 2)}, HALF, Ratio(3, 2)),
             ({"b": Ratio(9, 2)}, -3, None)], [], [({"a": 3, "c": Ratio(-3, 2)}, HALF, Ratio(3, 2))]], BOARD.turns()))
        self.assertEqual(BOARD * 1, BOARD)
        for value in [*ODD_VALUES, 0, -1, Ratio(0), Ratio(-1, 2), "2", BOARD]:
            self.assertEqual(raised(lambda: BOARD * value), ("InvalidNumber", value))

    def test_equality_and_repr(self):
        self.assertIs(BOARD == Board([BOARD.quotes(state) for state in range(3)], BOARD.turns()), True)
        self.assertIs(BOARD == Board([BOARD.quotes(state) for state in range(3)]), False)
        self.assertIs(Board([[ASKED, BOTH]]) == Board([[BOTH, ASKED]]), False)
        self.assertIs(Board([[({"a": 1, "b": 0}, 0, 0)]]) == Board([[({"a": 1}, 0, 0)]]), False)
        self.assertIs(Board([[]]) == Board([[], []]), False)
        self.assertIs(BOARD != BOARD * 2, True)
        self.assertIs(BOARD == repr(BOARD), False)
        self.assertEqual(repr(Board([[({"a": 1}, None, HALF)], []], {(0, "a"): 1, (1, "a"): 1})),
                         "Board([[({'a': Ratio(1, 1)}, None, Ratio(1, 2))], []], {(0, 'a'): 1})")
        self.assertEqual(repr(Board([[]])), "Board([[]], {})")

    def test_nothing_that_was_passed_or_returned_changes_it(self):
        pays, turns = {"a": 1}, {(0, "a"): 1}
        row = [(pays, 0, 1)]
        rows = [row, []]
        board = Board(rows, turns)
        told = repr(board)
        pays["b"] = 2
        row.append(None)
        rows.append(None)
        turns[0, "b"] = 1
        board.quotes(0)[0][0]["c"] = 5
        board.quotes(0).append(3)
        board.turns().clear()
        board * 2, board.with_quote(1, ASKED), board.without_quote(0, 0), board.beside(Board([[]]))
        self.assertEqual(repr(board), told)


if __name__ == "__main__":
    unittest.main()
