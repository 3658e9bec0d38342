import random
import unittest
from fractions import Fraction

from helper import ODD_VALUES, is_same, raised, ratio
from judges import random_board, random_claim, random_market
from machinery import random_machine, random_number
from test_markets import ring_board, ring_machine

from heardquotes.boards import Board
from heardquotes.claims import Claim
from heardquotes.machines import Machine
from heardquotes.markets import Market
from heardquotes.programs import Program
from heardquotes.ratios import Ratio
from heardquotes.readers import read
from heardquotes.texts import written

NET = Machine(3, [(2, "b", 0), (0, "a", 1), (0, "", 2)], [2, 0])
NET_TEXT = "machine 3 0 2\nstep 0 - 2\nstep 0 a 1\nstep 2 b 0\n"
CLAIM = Claim({2: Ratio(1, 2), 0: 3, 1: 0}, {"b": -1, "a": Ratio(-7, 3)})
CLAIM_TEXT = "claim\ndue 0 3\ndue 2 1/2\ntoll a -7/3\ntoll b -1\n"
BOARD = Board([[({"b": -1, "a": Ratio(1, 2)}, None, 0), ({"a": 0}, Ratio(-1, 3), None)], []], {(1, "b"): 0, (0, "a"): 1, (0, "b"): 0})
BOARD_TEXT = "board\nstate\nquote - 0 a 1/2 b -1\nquote -1/3 - a 0\nstate\nturn 0 a 1\nturn 1 b 0\n"
MARKET = Market(NET, "ab", BOARD)
MARKET_TEXT = "market ab\n" + NET_TEXT + BOARD_TEXT
THINGS = ((NET, NET_TEXT), (CLAIM, CLAIM_TEXT), (BOARD, BOARD_TEXT), (MARKET, MARKET_TEXT))


class Written(unittest.TestCase):
    def test_examples(self):
        for thing, text in THINGS:
            self.assertTrue(is_same(written(thing=thing), text))
        self.assertEqual(written(Machine(1, [], [0])), "machine 1 0\n")
        self.assertEqual(written(Machine(8, [(7, "z", 7)], [7])), "machine 8 7\nstep 7 z 7\n")
        self.assertEqual(written(Claim({})), "claim\n")
        self.assertEqual(written(Claim({}, {"z": Ratio(10, 4)})), "claim\ntoll z 5/2\n")
        self.assertEqual(written(Board([[]])), "board\nstate\n")
        self.assertEqual(written(Board([[], [], [], []], {(3, "c"): 0})), "board\nstate\nstate\nstate\nstate\nturn 3 c 0\n")
        self.assertEqual(written(Market(Machine(1, [(0, "a", 0)], [0]), "", Board([[]]))), "market -\nmachine 1 0\nstep 0 a 0\nboard\nstate\n")

    def test_values_that_are_no_things(self):
        for value in [*ODD_VALUES, Program(1), Ratio(1), NET_TEXT, [NET], Machine, 0]:
            self.assertEqual(raised(written, value), ("InvalidThing", value))


class Read(unittest.TestCase):
    def test_examples(self):
        for thing, text in THINGS:
            self.assertTrue(is_same(read(text=text), thing))
            self.assertEqual(written(read(text)), text)

    def test_by_chance(self):
        for thing in things_by_chance(random.Random(761), 120):
            self.assertTrue(is_same(read(written(thing)), thing), thing)

    def test_values_that_are_no_strings(self):
        for value in [value for value in ODD_VALUES if not isinstance(value, str)] + [0, 1, NET, NET_TEXT.encode(), [NET_TEXT]]:
            self.assertEqual(raised(read, value), ("InvalidText", 0))

    def check(self, text, line):
        self.assertEqual(raised(read, text), ("InvalidText", line), text)
        self.assertEqual(wrong_line(text), line, text)

    def test_what_is_no_form_at_all(self):
        for text in ("", "\n", "machine", "claim", "board", "market", "market -", "a\n", " \n", "Machine 1 0\n", " claim\n", "claim \n", "claims\n",
                     "board x\n", "machine\n", "machine 1\n", "machine 0 0\n", "machine 9 0\n", "machine 1 1\n", "machine 2 1 0\n", "machine 2 0 0\n",
                     "machine 2 00\n", "machine 02 0\n", "machine 2 -\n", "machine 2  0\n", "machine 2 0 \n", "machine -1 0\n", "machine 2 0 x\n",
                     "machine 10 0\n", "market\n", "market \n", "market ba\n", "market aa\n", "market A\n", "market abcdefg\n", "market a b\n", "market --\n",
                     "step 0 a 1\n", "due 0 1\n", "state\n", "\nclaim\n", "claim\r\n"):
            self.check(text, 1)

    def test_the_last_line_ends_with_a_line_feed(self):
        for thing, text in THINGS:
            self.check(text[:-1], text.count("\n"))
            self.check(text + "x", text.count("\n") + 1)
            self.check(text + "\n", text.count("\n") + 1)
            self.check(text + "step 0 a 1", text.count("\n") + 1)

    def test_machines(self):
        head = "machine 3 0 2\n"
        for line in ("step 0 a 3", "step 3 a 0", "step 0 A 1", "step 0  1", "step 0 1", "step 0 a 1 ", "step 0 ab 1", "step 0 a 01", "step -1 a 0", "step 0 a -",
                     "steps 0 a 1", "step 0 a 1 2", "Step 0 a 1", "", "machine 3 0 2", "state", "board", "claim", "step 0 1 1"):
            self.check(head + line + "\n", 2)
        self.check(head + "step 0 a 1\nstep 0 a 1\n", 3)
        self.check(head + "step 0 a 1\nstep 0 - 1\n", 3)
        self.check(head + "step 1 - 1\nstep 0 a 1\n", 3)
        self.check(head + "step 0 b 1\nstep 0 a 2\n", 3)
        self.check(head + "step 0 a 2\nstep 0 a 1\nstep 2 z 2\n", 3)

    def test_letters_and_steps_of_machines(self):
        six = "machine 1 0\n" + "".join(f"step 0 {letter} 0\n" for letter in "bcdefg")
        self.assertEqual(read(six).letters, "bcdefg")
        self.check(six + "step 0 h 0\n", 8)
        self.check("machine 1 0\n" + "".join(f"step 0 {letter} 0\n" for letter in "abcdefghi"), 8)
        lines = [f"step {one} {letter} {two}\n" for one in range(7) for letter in "ab" for two in range(3)]
        self.assertEqual(len(read("machine 7 0\n" + "".join(lines[:40])).steps()), 40)
        self.check("machine 7 0\n" + "".join(lines[:41]), 42)
        self.check("machine 7 0\n" + "".join(lines), 42)

    def test_claims(self):
        for line in ("due 0 0", "due 0 -1", "due 8 1", "due -1 1", "due 00 1", "due 0 1/1", "due 0 2/4", "due 0 +1", "due 0 01", "due 0 1/02", "due 0 1/-2",
                     "due 0 -0", "due 0 1/0", "due 0 0/2", "due 0 1.5", "due 0 1 2", "due 0", "due a 1", "due 0 -", "due 0 1/2/3", "due 0 /2", "due 0 1/", "due 0 --1",
                     "toll a 0", "toll a -0", "toll A 1", "toll - 1", "toll a", "toll a -2/4", "toll ab 1", "toll 1 a", "toll a 1 ", "toll a -/2", "toll a - 1", "claim"):
            self.check("claim\n" + line + "\n", 2)
        for lines in ("due 1 1\ndue 1 1\n", "due 1 1\ndue 0 2\n", "toll a 1\ndue 1 1\n", "toll b 1\ntoll a 1\n", "toll a 1\ntoll a 2\n", "due 1 1\nstate\n"):
            self.check("claim\n" + lines, 3)
        self.assertEqual(read("claim\ndue 7 123456/999983\ntoll a -1/1000000\n"), Claim({7: Ratio(123456, 999983)}, {"a": Ratio(-1, 1000000)}))

    def test_boards(self):
        self.check("board\n", 2)
        for line in ("quote - 0 a 1", "turn 0 a 1", "turn 0 a 0", "board", "states", "state 0", "step 0 a 0", ""):
            self.check("board\n" + line + "\n", 2)
        for line in ("quote", "quote - 0", "quote 0", "quote - - a 1", "quote 1 0 a 1", "quote - 0 a", "quote - 0 a 1 b", "quote - 0 b 1 a 1", "quote - 0 a 1 a 1",
                     "quote - 0 A 1", "quote - 0 a -", "quote - 0 - 1", "quote - 2/4 a 1", "quote 0 -0 a 1", "quote x 0 a 1", "quote - 0 ab 1", "quote - 0 a 1 ",
                     "quote - 0 1 a", "turn 0 a 0", "turn 0 a 1", "turn 1 a 0", "turn 0 - 0", "quote 1/2 1/3 a 1", "quote - 0  1"):
            self.check("board\nstate\n" + line + "\nstate\n", 3)
        self.assertEqual(read("board\nstate\nquote 0 0 a 0\nquote -1/2 -1/3 a -1 z 2\n"),
                         Board([[({"a": 0}, 0, 0), ({"a": -1, "z": 2}, Ratio(-1, 2), Ratio(-1, 3))]]))

    def test_how_many_of_a_board(self):
        four = "quote - 0 a 1\n" * 4
        self.assertEqual(len(read("board\nstate\n" + four).quotes(0)), 4)
        self.check("board\nstate\n" + four + "quote - 0 a 1\n", 7)
        self.check("board\nstate\nstate\nstate\nstate\nstate\n", 6)
        self.assertEqual(read("board\nstate\nstate\nstate\nstate\n").states, 4)

    def test_turns(self):
        head = "board\nstate\nstate\nturn 0 b 1\n"
        for line in ("state", "quote - 0 a 1", "turn 0 b 1", "turn 0 a 1", "turn 0 c 0", "turn 1 a 1", "turn 1 a 2", "turn 2 a 0", "turn 0 C 1", "turn 0 c", "turn 0 c 01",
                     "turn 0 c 1 1", "turn 00 c 1"):
            self.check(head + line + "\n", 5)
        self.assertEqual(read(head + "turn 0 c 1\nturn 1 a 0\n").turns(), {(0, "b"): 1, (0, "c"): 1, (1, "a"): 0})
        # A turn to a state that has not come yet: behind a turn none comes any more.
        self.check("board\nstate\nturn 0 a 1\nstate\n", 3)

    def test_markets(self):
        self.check("market ab\n", 2)
        self.check("market ab\nboard\n", 2)
        self.check("market ab\nclaim\n", 2)
        self.check("market ab\nmarket ab\n", 2)
        self.check("market ab\n" + NET_TEXT, 6)
        self.check("market ab\n" + NET_TEXT + "board\n", 7)
        self.check("market ab\n" + NET_TEXT + "board\nboard\n", 7)
        self.check("market ab\n" + NET_TEXT + "state\n", 6)
        self.check("market ab\n" + NET_TEXT + "step 0 a 1\n" + BOARD_TEXT, 6)
        self.check("market ab\n" + BOARD_TEXT + NET_TEXT, 2)
        self.check(MARKET_TEXT + "board\nstate\n", 13)
        self.check(MARKET_TEXT + NET_TEXT, 13)

    def test_what_makes_no_market(self):
        line = MARKET_TEXT.count("\n") + 1
        for heard in ("-", "a", "b", "abc", "z", "abcdef"):
            self.check("market " + heard + "\n" + NET_TEXT + BOARD_TEXT, line)
        crowded = "market a\n" + written(ring_machine(7)) + written(ring_board(3))
        self.assertEqual(raised(Market, ring_machine(7), "a", ring_board(3)), ("TooMany", "stands", 20))
        self.check(crowded, crowded.count("\n") + 1)
        # A line that is wrong comes ahead of that.
        self.check("market a\n" + NET_TEXT + BOARD_TEXT + "turn 1 b 0\n", line)
        self.check("market a\n" + NET_TEXT + "board\nstate\nturn 0 a 0\n", 8)

    def test_wrong_by_one_thing(self):
        chance = random.Random(762)
        right = 0
        for thing in things_by_chance(chance, 150):
            for _ in range(8):
                text = changed(chance, written(thing))
                line = wrong_line(text)
                error = raised(read, text)
                self.assertEqual(error, None if line is None else ("InvalidText", line), text)
                if line is None:
                    right += 1
                    self.assertEqual(written(read(text)), text)
        self.assertGreater(right, 100)


def things_by_chance(chance, rounds):
    for _ in range(rounds):
        kind = chance.randrange(4)
        if kind == 0:
            yield random_machine(chance, "abcd", 8, 12)
        if kind == 1:
            yield Claim({place: random_number(chance, 0, 9) for place in range(8) if chance.random() < 0.5},
                        {letter: random_number(chance) for letter in "abcxyz" if chance.random() < 0.5})
        if kind == 2:
            yield random_board(chance, "abc", 4, 4)
        if kind == 3:
            market = random_market(chance)
            yield market
            yield random_claim(chance, market)


def changed(chance, text):
    """The text with one line left out, doubled, moved, or changed, or put together of two."""
    lines = text.split("\n")[:-1]
    at, other = chance.randrange(len(lines)), chance.randrange(len(lines))
    kind = chance.randrange(7)
    if kind == 0:
        del lines[at]
    if kind == 1:
        lines.insert(at, lines[at])
    if kind == 2:
        lines[at], lines[other] = lines[other], lines[at]
    if kind == 3:
        lines.insert(at, chance.choice([*lines, "state", "board", "claim", "market a", "machine 1 0", "turn 0 a 1", "step 0 - 0", "due 0 1", ""]))
    if kind == 4:
        return text[:-1] if chance.random() < 0.2 else text + text
    if kind >= 5:
        words = lines[at].split(" ")
        words[chance.randrange(len(words))] = chance.choice(["0", "1", "2", "7", "8", "a", "b", "ab", "-", "1/2", "2/4", "-0", "03", "-1/3", "", "turn", "+1"])
        if chance.random() < 0.2:
            words.insert(chance.randrange(len(words) + 1), chance.choice(["0", "a", "1", ""]))
        lines[at] = " ".join(words)
    return "".join(line + "\n" for line in lines)


ENDS = ("", "state\n", "board\nstate\n", "machine 1 0\nboard\nstate\n")


def wrong_line(text):
    """The wrong line, by looking which beginnings some written form has; None if the text is right."""
    lines = text.split("\n")
    for many in range(1, len(lines)):
        begun = "".join(line + "\n" for line in lines[:many])
        if not any(is_form(begun + end) for end in ENDS):
            return many
    if lines[-1] != "" or not is_form(text) or made(text) is None:
        return len(lines)
    return None


def is_form(text):
    """Whether the text is a written form, or of a market one of letters, of a machine and of a board."""
    if not text.startswith("market "):
        thing = made(text)
        return thing is not None and written(thing) == text
    head, _, rest = text.partition("\n")
    at = rest.find("board\n")
    letters = head[7:]
    if at < 0 or letters != "-" and (letters == "" or list(letters) != sorted(set(letters)) or not letters.islower() or not letters.isalpha()):
        return False
    if len(letters) > 6 or not rest.startswith("machine "):
        return False
    return is_form(rest[:at]) and is_form(rest[at:])


def number(text):
    return ratio(Fraction(text))


def made(text):
    """The thing that a loose reading of the text makes, None if it makes none."""
    rows = [line.split(" ") for line in text.split("\n") if line]
    try:
        if rows[0][0] == "machine":
            return Machine(int(rows[0][1]), [(int(one), "" if letter == "-" else letter, int(two)) for _, one, letter, two in rows[1:]],
                           [int(place) for place in rows[0][2:]])
        if rows[0][0] == "claim":
            return Claim({int(row[1]): number(row[2]) for row in rows if row[0] == "due"}, {row[1]: number(row[2]) for row in rows if row[0] == "toll"})
        if rows[0][0] == "board":
            states = []
            for row in rows:
                if row[0] == "state":
                    states.append([])
                if row[0] == "quote":
                    bid, ask = [None if price == "-" else number(price) for price in row[1:3]]
                    states[-1].append((dict(zip(row[3::2], map(number, row[4::2]))), bid, ask))
            return Board(states, {(int(row[1]), row[2]): int(row[3]) for row in rows if row[0] == "turn"})
        if rows[0][0] == "market":
            head, _, rest = text.partition("\n")
            at = rest.index("board\n")
            return Market(made(rest[:at]), "" if head[7:] == "-" else head[7:], made(rest[at:]))
    except (ValueError, LookupError, ArithmeticError, TypeError, AttributeError):
        return None
    return None


if __name__ == "__main__":
    unittest.main()
