import random
import unittest

from helper import ODD_VALUES, fraction, is_same, raised
from judges import random_board
from machinery import by_length, random_machine, random_number, stops_by_word

from heardquotes.boards import Board
from heardquotes.claims import Claim
from heardquotes.folded import cover
from heardquotes.lengths import need
from heardquotes.machines import Machine
from heardquotes.markets import Market
from heardquotes.orders import apart, are_alike, at_most_pairs, begun_at, claim_above, is_apart, is_at_most_paper
from heardquotes.ratios import Ratio

ONE = Machine(3, [(0, "a", 1), (0, "b", 2), (1, "b", 1)], [0])
OTHER = Machine(2, [(0, "a", 1), (1, "b", 1)], [0])
DUE = Claim({1: 3})
ROOT, NEXT = ((0,), (0,)), ((1,), (1,))
PAPER = [ROOT, NEXT]
HALF = Ratio(1, 2)
# 25 charts and 67, each of which leads to the last place by a and b; c leads nowhere else.
SMALL = [(0, "a", 2), (0, "b", 5), (1, "a", 1), (1, "a", 3), (1, "b", 6), (2, "a", 4), (2, "b", 0), (3, "a", 2), (3, "a", 3), (3, "a", 4),
         (3, "b", 0), (3, "b", 3), (4, "a", 3), (4, "a", 5), (4, "b", 2), (5, "a", 6), (5, "b", 3), (5, "b", 5), (6, "a", 2), (6, "a", 5), (6, "b", 6)]
LARGE = [(0, "a", 2), (0, "b", 1), (0, "b", 3), (1, "a", 4), (1, "b", 0), (2, "a", 6), (2, "b", 4), (3, "a", 0), (3, "a", 6), (3, "b", 1), (4, "a", 1),
         (4, "b", 2), (5, "a", 0), (5, "b", 2), (6, "a", 3), (6, "b", 4), (6, "b", 5), (6, "b", 6)]


def with_c(steps):
    return Machine(7, steps + [(place, "c", place) for place in range(7)], [0])


def ring_by_c(places):
    return Machine(places, [(place, letter, place) for place in range(places) for letter in "ab"]
                   + [(place, "c", (place + 1) % places) for place in range(places)], [0])


class Couple:
    """Two machines, their claims, and what is heard, by going through all words that lead to unlike pairs."""

    def __init__(self, machine, claim, other, second, heard):
        self.machines, self.claims, self.heard = (machine, other), (claim, second), heard
        self.first = tuple(self.spread(side, some.begins()) for side, some in enumerate(self.machines))
        self.charts = [self.reached(side, self.first[side]) for side in (0, 1)]
        self.words = {}
        self.count()

    def spread(self, side, places):
        found, size = set(places), -1
        while size != len(found):
            size = len(found)
            found |= {stop for start, letter, stop in self.machines[side].steps() if start in found and (letter == "" or letter not in self.heard)}
        return tuple(sorted(found))

    def then(self, side, chart, letter):
        stops = {stop for start, said, stop in self.machines[side].steps() if start in chart and said == letter}
        return self.spread(side, stops) if stops else None

    def letters(self, side, chart):
        return [letter for letter in self.heard if self.then(side, chart, letter)]

    def reached(self, side, chart):
        found, waiting = set(), [chart]
        while waiting:
            chart = waiting.pop()
            if chart not in found:
                found.add(chart)
                waiting += [self.then(side, chart, letter) for letter in self.letters(side, chart)]
        return found

    def due(self, side, chart):
        return max(fraction(self.claims[side].due(place)) for place in chart)

    def coming(self, chart):
        return max(self.due(0, some) for some in self.reached(0, chart))

    def count(self):
        """The pairs behind words that count, each with the least of these words."""
        level = [("", self.first)]
        while level:
            fresh = []
            for word, pair in level:
                if pair not in self.words:
                    self.words[pair] = word
                    if not self.capped(pair):
                        fresh += [(word + letter, (self.then(0, pair[0], letter), self.then(1, pair[1], letter)))
                                  for letter in self.heard if self.then(0, pair[0], letter) and self.then(1, pair[1], letter)]
            level = fresh

    def capped(self, pair):
        return self.coming(pair[0]) <= self.due(1, pair[1])

    def is_kept(self, pair):
        if self.due(0, pair[0]) > self.due(1, pair[1]):
            return False
        return self.capped(pair) or set(self.letters(0, pair[0])) <= set(self.letters(1, pair[1]))

    def is_paper(self, value):
        if len(set(value)) != len(value) or self.first not in value:
            return False
        for one, two in value:
            if one not in self.charts[0] or two not in self.charts[1] or self.due(0, one) > self.due(1, two):
                return False
            if self.coming(one) <= self.due(1, two):
                continue
            for letter in self.letters(0, one):
                if (self.then(0, one, letter), self.then(1, two, letter)) not in value:
                    return False
        return True


def couples(chance, rounds):
    """Often the one is much like the other."""
    while rounds:
        machine = random_machine(chance, "abc", 4, 7)
        other = machine if chance.random() < 0.6 else random_machine(chance, "abc", 4, 7)
        for _ in range(chance.randint(0, 2)):
            step = (chance.randrange(other.places), chance.choice(["", *"abc"]), chance.randrange(other.places))
            if step not in other.steps() and chance.random() < 0.7:
                other = other.with_step(step)
        heard = "".join(letter for letter in machine.letters if letter in other.letters and chance.random() < 0.9)
        claims = [Claim({place: random_number(chance, 0, 3) for place in range(some.places) if chance.random() < 0.7}) for some in (machine, other)]
        if machine.places == other.places and chance.random() < 0.5:
            claims[1] = Claim({place: claims[0].due(place) + chance.choice([0, 0, 1]) for place in range(machine.places)})
        rounds -= 1
        yield machine, claims[0], other, claims[1], heard


class Begun(unittest.TestCase):
    def test_examples(self):
        self.assertEqual(begun_at(machine=ONE, chart=(1, 2)), Machine(3, ONE.steps(), [1, 2]))
        self.assertEqual(begun_at(ONE, (0,)), ONE)

    def test_charts_that_are_none(self):
        for value in [*ODD_VALUES, (1, 0), (0, 0), (3,), (-1,), (True,), (0, True), [0], 0, ("0",), (Ratio(0),)]:
            self.assertEqual(raised(begun_at, ONE, value), ("InvalidChart", value))


class Pairs(unittest.TestCase):
    def test_examples(self):
        self.assertTrue(is_same(at_most_pairs(machine=OTHER, claim=DUE, other=ONE, second=DUE, heard="ab"), PAPER))
        self.assertIsNone(at_most_pairs(ONE, DUE, OTHER, DUE, "ab"))
        self.assertTrue(is_same(at_most_pairs(ONE, DUE, OTHER, DUE, "a"), [((0, 2), (0,)), ((1,), (1,))]))
        self.assertTrue(is_same(at_most_pairs(OTHER, DUE, ONE, DUE, ""), [((0, 1), (0, 1, 2))]))
        self.assertTrue(is_same(at_most_pairs(OTHER, Claim({}), ONE, DUE, "ab"), [ROOT]))

    def test_capped_pairs_lead_nowhere(self):
        """Behind a the one may have no more than the other has there already, though it can hear what the other can't."""
        one = Machine(4, [(0, "a", 1), (1, "b", 2), (1, "a", 3)], [0])
        other = Machine(2, [(0, "a", 1), (1, "b", 1)], [0])
        self.assertEqual(at_most_pairs(one, Claim({2: 5, 3: 5}), other, Claim({1: 5}), "ab"), [((0,), (0,)), ((1,), (1,))])
        self.assertEqual(apart(one, Claim({2: 5, 3: 6}), other, Claim({1: 5}), "ab")[0], "a")
        self.assertIsNone(apart(one, Claim({2: 5, 3: 5}), other, Claim({1: 5}), "ab"))

    def test_by_chance(self):
        chance = random.Random(751)
        seen = []
        for machine, claim, other, second, heard in couples(chance, 150):
            couple = Couple(machine, claim, other, second, heard)
            right = all(couple.is_kept(pair) for pair in couple.words)
            told = at_most_pairs(machine, claim, other, second, heard)
            self.assertEqual(told, sorted(couple.words) if right else None, (machine, claim, other, second, heard))
            self.assertEqual(apart(machine, claim, other, second, heard) is None, right)
            if right:
                self.assertIs(is_at_most_paper(machine, claim, other, second, heard, told), True)
                self.assertTrue(couple.is_paper(told))
            seen.append(right)
        self.assertGreater(min(seen.count(True), seen.count(False)), 30)

    def test_for_boards_by_chance(self):
        """What the order says holds at boards, and without it some board says otherwise."""
        chance = random.Random(752)
        boards = 0
        for machine, claim, other, second, heard in couples(chance, 100):
            if at_most_pairs(machine, claim, other, second, heard) is None:
                continue
            couple = Couple(machine, claim, other, second, heard)
            for _ in range(4):
                board = random_board(chance, heard, 2, 2)
                for chart, mate in list(couple.words)[:6]:
                    one, two = begun_at(machine, chart), begun_at(other, mate)
                    if raised(Market, one, heard, board) or raised(Market, two, heard, board):
                        continue
                    mine, yours = Market(one, heard, board), Market(two, heard, board)
                    self.assertTrue(cover(mine, claim).is_at_most(cover(yours, second)))
                    for many in (1, 3):
                        self.assertTrue(need(mine, claim, many).is_at_most(need(yours, second, many)))
                    boards += 1
        self.assertGreater(boards, 200)

    def test_which_values_are_papers(self):
        for value in (PAPER, PAPER[::-1], tuple(PAPER), [*PAPER, ((1,), (2,))][:2]):
            self.assertIs(is_at_most_paper(machine=OTHER, claim=DUE, other=ONE, second=DUE, heard="ab", value=value), True)
        wrong = [[ROOT], [NEXT], [*PAPER, NEXT], [*PAPER, ((1,), (2,))], [*PAPER, ((0, 1), (1,))], [*PAPER, ((1,), (0, 1))], [*PAPER, None],
                 [list(ROOT), NEXT], [((0,), [0]), NEXT], [((0,),), NEXT], [((False,), (0,)), NEXT], [((0,), (0,), ()), NEXT], [ROOT, ((1,), (True,))],
                 [ROOT, ((1,), (7,))], [ROOT, "ab"], {ROOT: NEXT, NEXT: ROOT}, [*PAPER, ((), ())]]
        for value in [*ODD_VALUES, *wrong]:
            self.assertIs(is_at_most_paper(OTHER, DUE, ONE, DUE, "ab", value), False, value)
        self.assertIs(is_at_most_paper(OTHER, DUE, ONE, Claim({1: Ratio(29, 10)}), "ab", PAPER), False)
        self.assertIs(is_at_most_paper(OTHER, DUE, ONE, Claim({1: 4}), "ab", PAPER), True)
        self.assertIs(is_at_most_paper(ONE, DUE, OTHER, DUE, "ab", PAPER), False)

    def test_pairs_more(self):
        """Further pairs of charts behind unlike words are right, if they are kept, too."""
        one = Machine(3, [(0, "a", 1), (1, "a", 2)], [0])
        claim = Claim({2: 1})
        right = [((0,), (0,)), ((1,), (1,)), ((2,), (2,))]
        self.assertEqual(at_most_pairs(one, claim, one, claim, "a"), right)
        self.assertIs(is_at_most_paper(one, claim, one, claim, "a", [*right, ((0,), (2,)), ((1,), (2,))]), True)
        self.assertIs(is_at_most_paper(one, claim, one, claim, "a", [*right, ((2,), (0,))]), False)
        self.assertIs(is_at_most_paper(one, claim, one, claim, "a", [*right, ((0,), (1,))]), False)
        self.assertIs(is_at_most_paper(one, Claim({}), one, claim, "a", [((0,), (0,))]), True)

    def test_wrong_by_one_thing(self):
        chance = random.Random(753)
        verdicts = []
        for machine, claim, other, second, heard in couples(chance, 150):
            paper = at_most_pairs(machine, claim, other, second, heard)
            if paper is None:
                continue
            couple = Couple(machine, claim, other, second, heard)
            charts = [sorted(some) for some in couple.charts]
            for _ in range(6):
                value = list(paper)
                if chance.random() < 0.4:
                    del value[chance.randrange(len(value))]
                else:
                    value.insert(chance.randint(0, len(value)), (chance.choice(charts[0]), chance.choice(charts[1])))
                verdicts.append(couple.is_paper(value))
                self.assertIs(is_at_most_paper(machine, claim, other, second, heard, value), verdicts[-1])
            higher = Claim({**claim.dues(), chance.randrange(machine.places): 9})
            self.assertIs(is_at_most_paper(machine, higher, other, second, heard, paper),
                          Couple(machine, higher, other, second, heard).is_paper(paper))
        self.assertGreater(min(verdicts.count(True), verdicts.count(False)), 40)

    def test_200_pairs_and_more(self):
        claim = Claim({6: 1})
        for call, rest in ((at_most_pairs, []), (apart, []), (is_apart, [None]), (are_alike, [])):
            self.assertIsNone(raised(call, with_c(SMALL), claim, ring_by_c(8), Claim({}), "abc", *rest))
            self.assertEqual(raised(call, with_c(LARGE), claim, ring_by_c(3), Claim({}), "abc", *rest), ("TooMany", "pairs", 200))
            self.assertIsNone(raised(call, with_c(LARGE), Claim({}), ring_by_c(3), Claim({}), "abc", *rest))
        self.assertIs(is_at_most_paper(with_c(LARGE), claim, ring_by_c(3), Claim({}), "abc", None), False)
        self.assertEqual(apart(with_c(SMALL), claim, ring_by_c(8), Claim({}), "abc")[0], "ba")
        # There is one pair the one way, and there are too many the other way.
        self.assertEqual(len(at_most_pairs(ring_by_c(3), Claim({}), with_c(LARGE), claim, "abc")), 1)
        self.assertEqual(raised(are_alike, ring_by_c(3), Claim({}), with_c(LARGE), claim, "abc"), ("TooMany", "pairs", 200))


class Apart(unittest.TestCase):
    def test_by_letters(self):
        self.assertTrue(is_same(apart(machine=ONE, claim=DUE, other=OTHER, second=DUE, heard="ab"), (
            "", Board([[({"a": 1, "b": -1}, None, 0)], []], {(0, "a"): 1, (0, "b"): 1}))))
        self.assertIs(is_apart(ONE, DUE, OTHER, DUE, "ab", apart(ONE, DUE, OTHER, DUE, "ab")), True)

    def test_the_least_number_of_times(self):
        one = Machine(3, [(0, "a", 1), (0, "b", 2)], [0])
        other = Machine(4, [(0, "a", 1), (3, "b", 3)], [0])
        for due, low, times in ((5, 0, 1), (5, 2, 1), (4, 2, 2), (3, 2, 3), (5, 3, 2), (5, 4, 5), (Ratio(9, 2), 4, 9), (Ratio(401, 100), 4, 401), (1, 0, 1),
                                (6, 4, 3), (7, 5, 3), (Ratio(9, 2), 3, 3)):
            word, board = apart(one, Claim({1: due}), other, Claim({0: low, 1: due}), "ab")
            self.assertTrue(is_same((word, board), ("", Board([[({"b": -times, "a": 1}, None, 0)], []], {(0, "a"): 1, (0, "b"): 1}))))
            self.assertIs(is_apart(one, Claim({1: due}), other, Claim({0: low, 1: due}), "ab", (word, board)), True)
            less = Board([[({"b": 1 - times, "a": 1}, None, 0)], []], {(0, "a"): 1, (0, "b"): 1})
            self.assertIs(is_apart(one, Claim({1: due}), other, Claim({0: low, 1: due}), "ab", (word, less)), False)

    def test_by_a_floor(self):
        self.assertTrue(is_same(apart(OTHER, DUE, ONE, Claim({1: 2}), "ab"), ("a", Board([[({"a": 1, "b": 1}, None, 0)]]))))
        self.assertTrue(is_same(apart(OTHER, Claim({0: 1, 1: 3}), ONE, DUE, "ab"), ("", Board([[({"a": 1, "b": 1}, None, 0)]]))))
        self.assertTrue(is_same(apart(OTHER, DUE, ONE, Claim({1: 2}), "a"), ("a", Board([[({"a": 1}, None, 0)]]))))

    def test_without_heard_letters(self):
        self.assertTrue(is_same(apart(OTHER, DUE, ONE, Claim({1: 2}), ""), ("", Board([[]]))))
        self.assertIsNone(apart(OTHER, DUE, ONE, DUE, ""))
        self.assertIs(is_apart(OTHER, DUE, ONE, Claim({1: 2}), "", ("", Board([[]]))), True)
        self.assertIs(is_apart(OTHER, DUE, ONE, Claim({1: 3}), "", ("", Board([[]]))), False)

    def test_by_chance(self):
        chance = random.Random(754)
        seen = {}
        for machine, claim, other, second, heard in couples(chance, 150):
            told = apart(machine, claim, other, second, heard)
            if told is None:
                continue
            word, board = told
            couple = Couple(machine, claim, other, second, heard)
            self.assertEqual(word, by_length(some for pair, some in couple.words.items() if not couple.is_kept(pair))[0])
            chart, mate = next(pair for pair in couple.words if couple.words[pair] == word)
            low, high = couple.due(1, mate), couple.coming(chart)
            if couple.due(0, chart) > low:
                right = Board([[({letter: 1 for letter in heard}, None, 0)] if heard else []])
            else:
                alone = [letter for letter in couple.letters(0, chart) if letter not in couple.letters(1, mate)][0]
                times = next(k for k in range(1, 1000) if k * (high - low) > low)
                right = Board([[({letter: -times if letter == alone else 1 for letter in heard}, None, 0)], []], {(0, letter): 1 for letter in heard})
            self.assertTrue(is_same(told, (word, right)))
            seen[board.states] = seen.get(board.states, 0) + 1
            self.assertIs(is_apart(machine, claim, other, second, heard, told), True)
            mine, yours = [Market(begun_at(some, places), heard, board) for some, places in ((machine, chart), (other, mate))]
            self.assertEqual(fraction(cover(yours, second)), low)
            self.assertTrue(cover(yours, second).is_below(cover(mine, claim)))
        self.assertGreater(min(seen.values()), 10)

    def test_which_values_show_it(self):
        told = apart(ONE, DUE, OTHER, DUE, "ab")
        only = Board([[({"b": -1}, None, 0)]])
        self.assertIs(is_apart(machine=ONE, claim=DUE, other=OTHER, second=DUE, heard="ab", value=told), True)
        wrong = [list(told), told[:1], (*told, None), (told[1], told[0]), ("a", told[1]), ("b", told[1]), ("z", told[1]), ("A", told[1]), (None, told[1]),
                 ("", None), ("", Board([[]])), ("", Board([[], []], {(0, "c"): 1})), ("", Board([[({"c": 1}, 0, 0)]])), ("aaaa", told[1]), ("", only)]
        for value in [*ODD_VALUES, *wrong]:
            self.assertIs(is_apart(ONE, DUE, OTHER, DUE, "ab", value), False, value)
        self.assertIs(is_apart(ONE, DUE, OTHER, Claim({1: 4}), "ab", told), True)
        self.assertIs(is_apart(ONE, DUE, OTHER, Claim({0: 3, 1: 4}), "ab", told), False)
        # Behind a pair that is capped no word counts: told of a longer word it shows nothing.
        fast = Machine(2, [(0, "a", 1), (1, "a", 1)], [0])
        self.assertIs(is_apart(fast, Claim({1: 1}), fast, Claim({0: 1}), "a", ("", Board([[]]))), False)
        self.assertIs(is_apart(fast, Claim({1: 1}), fast, Claim({0: 1}), "a", ("a", Board([[]]))), False)
        self.assertIs(is_apart(fast, Claim({1: 1}), fast, Claim({0: Ratio(1, 2)}), "a", ("a", Board([[]]))), True)
        self.assertIs(is_apart(fast, Claim({1: 1}), fast, Claim({0: Ratio(1, 2)}), "a", ("", Board([[]]))), True)
        self.assertIs(is_apart(fast, Claim({1: 1}), fast, Claim({0: Ratio(1, 2)}), "a", ("aaaaaa", Board([[]]))), True)

    def test_more_than_20_stands(self):
        one, claim = Machine(7, LARGE, [0]), Claim({6: 1})
        two = Machine(1, [(0, "a", 0), (0, "b", 0)], [0])
        error = ("TooMany", "stands", 20)
        self.assertEqual(raised(is_apart, one, claim, two, Claim({}), "ab", ("", Board([[]]))), error)
        self.assertEqual(raised(is_apart, two, Claim({0: 1}), one, Claim({}), "ab", ("", Board([[]]))), error)
        self.assertIs(is_apart(one, claim, two, Claim({}), "ab", ("c", Board([[]]))), False)
        self.assertIs(is_apart(one, claim, two, Claim({}), "ab", ("", None)), False)
        self.assertEqual(apart(one, claim, two, Claim({}), "ab")[0], "aa")


class Alike(unittest.TestCase):
    def test_examples(self):
        self.assertIs(are_alike(machine=ONE, claim=DUE, other=ONE, second=DUE, heard="ab"), True)
        self.assertIs(are_alike(ONE, DUE, OTHER, DUE, "ab"), False)
        self.assertIs(are_alike(OTHER, DUE, ONE, DUE, "ab"), False)
        double = Machine(4, [(0, "a", 1), (0, "a", 3), (1, "b", 1), (3, "b", 1), (1, "b", 3)], [0])
        self.assertIs(are_alike(double, Claim({1: 3, 3: 3}), OTHER, DUE, "ab"), True)
        self.assertIs(are_alike(OTHER, DUE, double, Claim({1: 3, 3: 2}), "ab"), True)
        self.assertIs(are_alike(OTHER, DUE, double, Claim({1: 3, 3: 4}), "ab"), False)
        self.assertIs(are_alike(ONE, Claim({}), OTHER, Claim({}), "ab"), True)

    def test_by_chance(self):
        chance = random.Random(755)
        seen = []
        for machine, claim, other, second, heard in couples(chance, 150):
            both = [at_most_pairs(machine, claim, other, second, heard), at_most_pairs(other, second, machine, claim, heard)]
            seen.append(are_alike(machine, claim, other, second, heard))
            self.assertIs(seen[-1], None not in both)
            trimmed = machine.trimmed()
            if trimmed == machine:
                self.assertIs(are_alike(machine, claim, machine, claim, heard), True)
        self.assertGreater(min(seen.count(True), seen.count(False)), 10)


class ClaimAbove(unittest.TestCase):
    def test_examples(self):
        self.assertEqual(claim_above(machine=ONE, claim=Claim({2: 1}), second=DUE, heard="ab"), "b")
        self.assertIsNone(claim_above(ONE, Claim({1: 3}), Claim({1: 3, 2: 1}), "ab"))
        self.assertEqual(claim_above(ONE, Claim({1: Ratio(31, 10), 2: 9}), DUE, "ab"), "a")
        self.assertEqual(claim_above(ONE, Claim({0: 1}), DUE, "ab"), "")
        self.assertIsNone(claim_above(ONE, Claim({0: 3, 2: 2}), DUE, ""))
        self.assertEqual(claim_above(ONE, Claim({}, {"a": 1, "b": 0}), Claim({}, {"a": 1}), "ab"), None)

    def test_by_chance(self):
        chance = random.Random(756)
        seen = []
        for _ in range(100):
            machine = random_machine(chance, "abc", 5, 9)
            heard = "".join(letter for letter in machine.letters if chance.random() < 0.8)
            tolls = {letter: random_number(chance) for letter in heard if chance.random() < 0.4}
            one, two = [Claim({place: random_number(chance, 0, 3) for place in range(machine.places)}, tolls) for _ in range(2)]
            words = {word: max(fraction(one.due(place)) for place in places) > max(fraction(two.due(place)) for place in places)
                     for word, places in stops_by_word(machine, heard, 8).items()}
            right = next((word for word in by_length(words) if words[word]), None)
            self.assertEqual(claim_above(machine, one, two, heard), right)
            seen.append(right)
            market = raised(Market, machine, heard, Board([[]])) is None
            if market and right is None and heard:
                board = random_board(chance, heard, 1, 2)
                if raised(Market, machine, heard, board) is None and cover(Market(machine, heard, board), two) is not None:
                    self.assertTrue(cover(Market(machine, heard, board), one).is_at_most(cover(Market(machine, heard, board), two)))
            if market and right is not None and not tolls and heard:
                shows = Market(begun_at(machine, tuple(sorted(stops_by_word(machine, heard, 8)[right]))), heard,
                               Board([[({letter: 1 for letter in heard}, None, 0)]]))
                self.assertTrue(cover(shows, two).is_below(cover(shows, one)))
        self.assertGreater(min(seen.count(None), seen.count(""), len([word for word in seen if word])), 5)

    def test_errors(self):
        for value in [value for value in ODD_VALUES if value != ""] + ["ba", "c", "aa", ("a",)]:
            self.assertEqual(raised(claim_above, ONE, Claim({7: 1}), Claim({7: 1}), value), ("InvalidHeard", value))
        self.assertEqual(raised(claim_above, ONE, Claim({7: 1, 5: 1}, {"z": 1}), Claim({4: 1}), "ab"), ("UnknownPlace", 5))
        self.assertEqual(raised(claim_above, ONE, Claim({1: 1}, {"z": 1, "c": 1}), Claim({4: 1}), "ab"), ("UnheardLetter", "c"))
        self.assertEqual(raised(claim_above, ONE, Claim({1: 1}, {"b": 1}), Claim({4: 1}, {"d": 1}), "ab"), ("UnknownPlace", 4))
        self.assertEqual(raised(claim_above, ONE, Claim({1: 1}, {"b": 1}), Claim({1: 1}, {"d": 1}), "ab"), ("UnheardLetter", "d"))
        self.assertEqual(raised(claim_above, ONE, Claim({1: 1}, {"b": 1}), Claim({1: 1}, {"a": 2}), "ab"), ("OtherTolls", "a"))
        self.assertEqual(raised(claim_above, ONE, Claim({1: 1}, {"b": 1, "a": 2}), Claim({1: 1}, {"a": 2}), "ab"), ("OtherTolls", "b"))
        self.assertEqual(raised(claim_above, ONE, Claim({}, {"b": 1, "a": 2}), Claim({}, {"a": 2, "b": HALF}), "ab"), ("OtherTolls", "b"))
        self.assertEqual(raised(claim_above, ONE, Claim({}), Claim({}, {"b": 1}), "ab"), ("OtherTolls", "b"))


class Errors(unittest.TestCase):
    CALLS = ((at_most_pairs, []), (is_at_most_paper, [None]), (apart, []), (is_apart, [None]), (are_alike, []))

    def test_heard(self):
        third = Machine(1, [(0, "b", 0), (0, "c", 0)], [0])
        for call, rest in self.CALLS:
            for value in [value for value in ODD_VALUES if value != ""] + ["ba", "c", "aa", ("a",), "abc"]:
                self.assertEqual(raised(call, ONE, Claim({7: 1}, {"a": 1}), OTHER, Claim({7: 1}), value, *rest), ("InvalidHeard", value))
            for value in ("a", "ab", "c", "bc"):
                self.assertEqual(raised(call, ONE, DUE, third, Claim({}), value, *rest), ("InvalidHeard", value))
            self.assertIsNone(raised(call, ONE, DUE, third, Claim({}), "b", *rest))

    def test_places_then_tolls(self):
        for call, rest in self.CALLS:
            self.assertEqual(raised(call, ONE, Claim({6: 1, 3: 1}, {"a": 1}), OTHER, Claim({2: 1}), "ab", *rest), ("UnknownPlace", 3))
            self.assertEqual(raised(call, ONE, Claim({2: 1}, {"a": 1}), OTHER, Claim({5: 1, 2: 1}), "ab", *rest), ("UnknownPlace", 2))
            self.assertEqual(raised(call, ONE, Claim({2: 1}, {"z": 1, "c": -1}), OTHER, Claim({1: 1}, {"a": 1}), "ab", *rest), ("HasTolls", "c"))
            self.assertEqual(raised(call, ONE, Claim({2: 1}, {"c": 0}), OTHER, Claim({1: 1}, {"b": 1, "z": 3}), "ab", *rest), ("HasTolls", "b"))
            large = with_c(LARGE), Claim({6: 1}), ring_by_c(3)
            self.assertEqual(raised(call, *large, Claim({}, {"a": 1}), "abc", *rest), ("HasTolls", "a"))

    def test_what_is_passed_or_told_may_be_changed(self):
        at_most_pairs(OTHER, DUE, ONE, DUE, "ab").clear()
        value = list(PAPER)
        self.assertIs(is_at_most_paper(OTHER, DUE, ONE, DUE, "ab", value), True)
        self.assertEqual((value, at_most_pairs(OTHER, DUE, ONE, DUE, "ab")), (PAPER, PAPER))


if __name__ == "__main__":
    unittest.main()
