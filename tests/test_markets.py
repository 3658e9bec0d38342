import random
import unittest

from helper import ODD_VALUES, is_same, raised
from judges import Told, random_board, random_market
from machinery import by_length, random_machine, stops_by_word

from heardquotes.boards import Board
from heardquotes.machines import Machine
from heardquotes.markets import Market, first_stand, next_letters_of, next_stands, stand_behind, stands, word_to
from heardquotes.ratios import Ratio

BOARD = Board([[({"a": 1, "b": 0}, Ratio(1, 3), Ratio(1, 3))], [({"a": 1}, None, 0)]], {(0, "b"): 1})
MACHINE = Machine(3, [(0, "a", 1), (0, "b", 2), (2, "a", 2), (2, "b", 2), (1, "", 0), (1, "c", 2)], [0])
MARKET = Market(MACHINE, "abc", BOARD)
START, LATER, LAST = ((0,), 0), ((0, 1), 0), ((2,), 1)
WRONG_STANDS = [value for value in ODD_VALUES if value != ()] + [
    (), ((0,),), ((0,), 0, 0), [(0,), 0], ([0], 0), ((1,), 0), ((0,), 1), ((0,), 2), ((0,), -1), ((False,), 0),
    ((0,), False), ((0, True), 0), ((1, 0), 0), ((0, 0), 0), ((), 0), ("0", 0), ((0,), "0"), (0, 0), ((2,), 0),
    ((0,), Ratio(0)), ((Ratio(0),), 0), ((0, None), 0), ((0,), None), ((0,), [0]), (((0,),), 0), ((7,), 0), ((8,), 0)]


def ring_machine(places):
    return Machine(places, [(place, "a", (place + 1) % places) for place in range(places)], [0])


def ring_board(states):
    return Board([[] for _ in range(states)], {(state, "a"): (state + 1) % states for state in range(states)})


class Markets(unittest.TestCase):
    def test_parts(self):
        self.assertIs(MARKET.machine == MACHINE, True)
        self.assertIs(MARKET.board == BOARD, True)
        self.assertEqual(MARKET.heard, "abc")
        self.assertEqual(Market(machine=MACHINE, heard="ab", board=BOARD).heard, "ab")

    def test_wrong_heard(self):
        for value in [value for value in ODD_VALUES if value != ""] + ["ba", "aa", "abd", "abA", ("a", "b"), ["a"], 3]:
            self.assertEqual(raised(Market, MACHINE, value, BOARD), ("InvalidHeard", value))
            self.assertEqual(raised(MARKET.with_heard, value), ("InvalidHeard", value))

    def test_letters_of_the_board_that_are_not_heard(self):
        self.assertEqual(raised(Market, MACHINE, "", BOARD), ("UnheardLetter", "a"))
        self.assertEqual(raised(Market, MACHINE, "ac", BOARD), ("UnheardLetter", "b"))
        self.assertEqual(raised(MARKET.with_heard, "bc"), ("UnheardLetter", "a"))
        turning = Board([[({"c": 1}, 0, 0)], []], {(0, "z"): 1, (1, "x"): 0, (1, "d"): 1})
        self.assertEqual(raised(MARKET.with_board, turning), ("UnheardLetter", "x"))
        self.assertEqual(raised(Market, ring_machine(7), "", ring_board(3)), ("UnheardLetter", "a"))

    def test_at_most_twenty_stands(self):
        self.assertEqual(len(stands(Market(ring_machine(5), "a", ring_board(4)))), 20)
        self.assertEqual(raised(Market, ring_machine(7), "a", ring_board(3)), ("TooMany", "stands", 20))
        self.assertEqual(raised(Market, ring_machine(8), "a", ring_board(3)), ("TooMany", "stands", 20))
        small = Market(ring_machine(7), "a", Board([[]]))
        self.assertEqual(raised(small.with_board, ring_board(3)), ("TooMany", "stands", 20))
        self.assertEqual(len(stands(small.with_board(ring_board(2)))), 14)

    def test_too_many_stands_by_hearing_more(self):
        """A place for each of the last letters, which may have been a: all sets of them come, with the first place."""
        steps = [(0, "a", 0), (0, "b", 0), (0, "a", 1)] + [(place, letter, place + 1) for place in range(1, 6)
                                                           for letter in "ab"]
        fewer = Machine(5, [step for step in steps if max(step[0], step[2]) < 5], [0])
        self.assertEqual(len(stands(Market(fewer, "ab", Board([[]])))), 16)
        mute = Market(Machine(7, steps, [0]), "", Board([[]]))
        self.assertEqual(len(stands(mute)), 1)
        self.assertEqual(raised(mute.with_heard, "ab"), ("TooMany", "stands", 20))

    def test_with_another_board_or_others_heard(self):
        other = MARKET.with_board(board=Board([[]]))
        self.assertEqual(other, Market(MACHINE, "abc", Board([[]])))
        self.assertEqual(other.with_heard(heard=""), Market(MACHINE, "", Board([[]])))
        self.assertEqual(stands(other.with_heard("")), [((0, 1, 2), 0)])
        self.assertEqual(MARKET, Market(MACHINE, "abc", BOARD))

    def test_equality_and_repr(self):
        self.assertIs(MARKET == Market(MACHINE, "abc", BOARD * 1), True)
        self.assertIs(MARKET == MARKET.with_heard("ab"), False)
        self.assertIs(MARKET == MARKET.with_board(Board([[]])), False)
        self.assertIs(MARKET == Market(MACHINE.without_step((1, "", 0)), "abc", BOARD), False)
        self.assertIs(MARKET != MARKET.with_heard("ab"), True)
        self.assertIs(MARKET == repr(MARKET), False)
        self.assertEqual(repr(MARKET), f"Market({MACHINE!r}, 'abc', {BOARD!r})")

    def test_stands_in_their_sequence(self):
        self.assertTrue(is_same(stands(MARKET), [START, LATER, LAST, ((2,), 0)]))
        self.assertTrue(is_same(first_stand(market=MARKET), START))
        self.assertTrue(is_same(next_stands(MARKET, LATER), {"a": LATER, "b": LAST, "c": ((2,), 0)}))
        self.assertEqual(next_letters_of(market=MARKET, stand=LAST), "ab")
        mute = Market(MACHINE, "", Board([[], []]))
        self.assertTrue(is_same(next_stands(market=mute, stand=((0, 1, 2), 0)), {}))
        self.assertEqual(next_letters_of(mute, ((0, 1, 2), 0)), "")

    def test_what_is_behind_words(self):
        cases = [("", START), ("a", LATER), ("aac", ((2,), 0)), ("acb", LAST), ("c", None), ("acc", None), ("az", None)]
        for word, stand in cases:
            self.assertTrue(is_same(stand_behind(MARKET, word), stand), word)
        self.assertEqual(stand_behind(market=MARKET, word="b"), LAST)
        self.assertEqual([word_to(MARKET, stand) for stand in stands(MARKET)], ["", "a", "b", "ac"])
        self.assertEqual(word_to(market=MARKET, stand=LAST), "b")
        for value in [value for value in ODD_VALUES if value != ""] + ["aB", 3, ["a"], ("a",)]:
            self.assertEqual(raised(stand_behind, MARKET, value), ("InvalidWord", value))

    def test_wrong_stands(self):
        wrong = [value for value in WRONG_STANDS if value not in ([], ((2,), 0))]
        for call in (next_letters_of, next_stands, word_to):
            for value in wrong:
                self.assertEqual(raised(call, MARKET, value), ("InvalidStand", value), value)

    def test_by_chance_against_all_runs(self):
        chance = random.Random(301)
        for _ in range(60):
            market = random_market(chance)
            told = Told(market)
            table = stops_by_word(market.machine, market.heard, 5)
            for word, stops in table.items():
                stand = (tuple(sorted(stops)), market.board.state_behind(word))
                self.assertTrue(is_same(stand_behind(market, word), stand))
            self.assertEqual(stands(market), list(told.leads))
            for stand in told.leads:
                self.assertTrue(is_same(next_stands(market, stand), told.leads[stand]))
                self.assertEqual(next_letters_of(market, stand), "".join(told.leads[stand]))
                words = [word for word in by_length(table) if stand_behind(market, word) == stand]
                self.assertEqual(word_to(market, stand), words[0] if words else told.words[stand])
                self.assertEqual(word_to(market, stand), told.words[stand])

    def test_letters_that_are_not_heard_lead_nowhere(self):
        chance = random.Random(302)
        for _ in range(30):
            machine = random_machine(chance)
            heard = machine.letters[1:]
            board = random_board(chance, heard)
            if raised(Market, machine, heard, board) is None:
                market = Market(machine, heard, board)
                for letter in machine.letters[:1]:
                    self.assertIsNone(stand_behind(market, letter))

    def test_returned_tables_are_new(self):
        next_stands(MARKET, START).clear()
        stands(MARKET).clear()
        self.assertEqual(len(stands(MARKET)), 4)
        self.assertEqual(next_letters_of(MARKET, START), "ab")


if __name__ == "__main__":
    unittest.main()
