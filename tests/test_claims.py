import random
import unittest
from fractions import Fraction

from helper import ODD_VALUES, fraction, is_same, raised
from machinery import by_length, random_heard, random_number

from heardquotes.charts import all_charts, chart_then, first_chart, next_letters
from heardquotes.claims import Claim, ceilings, floor, greatest_floor, is_ceilings, is_spent, is_toll_round, rise
from heardquotes.claims import toll_round
from heardquotes.machines import Machine
from heardquotes.ratios import Ratio

NET = Machine(3, [(0, "a", 1), (0, "", 2), (1, "b", 0), (2, "a", 2)], [0])
CLAIM = Claim({1: 3, 2: Ratio(1, 2)}, {"b": -1})
LOOP = Machine(2, [(0, "a", 0), (0, "b", 1), (1, "b", 0)], [0])


class Building(unittest.TestCase):
    def test_dues_and_tolls(self):
        claim = Claim(tolls={"z": 2, "b": 0, "a": Ratio(-1, 2)}, dues={7: Ratio(3, 3), 2: 0, 0: 5, 1: Ratio(0)})
        self.assertTrue(is_same(claim.dues(), {0: Ratio(5), 7: Ratio(1)}))
        self.assertTrue(is_same(claim.tolls(), {"a": Ratio(-1, 2), "z": Ratio(2)}))
        self.assertTrue(is_same([claim.due(place) for place in (0, 1, 2, 7)], [Ratio(5), Ratio(0), Ratio(0), Ratio(1)]))
        self.assertTrue(is_same([claim.toll(letter) for letter in "abz"], [Ratio(-1, 2), Ratio(0), Ratio(2)]))
        self.assertTrue(is_same([claim.tolls_of(word) for word in ("", "aaz", "bbc")], [Ratio(0), Ratio(1), Ratio(0)]))
        self.assertTrue(is_same(Claim({}).tolls(), {}))
        self.assertEqual(claim.due(place=7), claim.tolls_of(word="aaz"))
        self.assertEqual(claim.toll(letter="z"), Ratio(2))

    def test_wrong_dues(self):
        for value in [value for value in ODD_VALUES if value != {}] + [
                {8: 1}, {-1: 1}, {True: 1}, {False: 1}, {0: -1}, {0: Ratio(-1, 2)}, {0: True}, {0: None}, {"0": 1},
                {(0,): 1}, {0: 1, 1: False}, [(0, 1)], {None: 1}, 3]:
            self.assertEqual(raised(Claim, value, 5), ("InvalidDues", value))

    def test_wrong_tolls(self):
        for value in [value for value in ODD_VALUES if value not in ({}, None)] + [
                {"A": 1}, {"ab": 1}, {"": 1}, {"a": True}, {"a": None}, {0: 1}, {True: 1}, [("a", 1)], {None: 1},
                {("a",): 1}, {"a": 1, "b": "1"}, 3]:
            self.assertEqual(raised(Claim, {}, value), ("InvalidTolls", value))
        self.assertEqual(Claim({}, None), Claim({}, {}))

    def test_wrong_places_letters_and_words(self):
        for value in [*ODD_VALUES, -1, 8, Ratio(1), "1"]:
            self.assertEqual(raised(CLAIM.due, value), ("InvalidPlace", value))
        for value in [*ODD_VALUES, "ab", 1, "B"]:
            self.assertEqual(raised(CLAIM.toll, value), ("InvalidLetter", value))
        for value in [value for value in ODD_VALUES if value != ""] + [1, "a-", ["a"]]:
            self.assertEqual(raised(CLAIM.tolls_of, value), ("InvalidWord", value))

    def test_sums(self):
        other = Claim({1: Ratio(1, 2), 5: 1}, {"b": 1, "c": 2})
        self.assertEqual(CLAIM + other, Claim({1: Ratio(7, 2), 2: Ratio(1, 2), 5: 1}, {"c": 2}))
        self.assertEqual(CLAIM + other, other + CLAIM)
        for value in [*ODD_VALUES, 3, Ratio(1)]:
            self.assertEqual(raised(lambda: CLAIM + value), ("InvalidOther", value))

    def test_multiples(self):
        self.assertEqual(CLAIM * 2, CLAIM + CLAIM)
        self.assertEqual(CLAIM * Ratio(1, 3), Claim({1: 1, 2: Ratio(1, 6)}, {"b": Ratio(-1, 3)}))
        self.assertEqual(CLAIM * 0, Claim({}))
        for value in [*ODD_VALUES, -1, Ratio(-1, 9), "2", CLAIM]:
            self.assertEqual(raised(lambda: CLAIM * value), ("InvalidNumber", value))

    def test_equality_and_repr(self):
        self.assertIs(CLAIM == Claim({2: Ratio(2, 4), 1: Ratio(3), 0: 0}, {"b": Ratio(-1), "x": 0}), True)
        self.assertIs(CLAIM == Claim({1: 3, 2: Ratio(1, 2)}), False)
        self.assertIs(CLAIM == Claim({1: 3}, {"b": -1}), False)
        self.assertIs(CLAIM != CLAIM * 2, True)
        self.assertIs(CLAIM == CLAIM.dues(), False)
        self.assertEqual(repr(Claim({0: 3}, {"a": Ratio(1, 2)})), "Claim({0: Ratio(3, 1)}, {'a': Ratio(1, 2)})")
        self.assertEqual(repr(Claim({5: 1, 3: 2}, {"c": 1, "b": 2})),
                         "Claim({3: Ratio(2, 1), 5: Ratio(1, 1)}, {'b': Ratio(2, 1), 'c': Ratio(1, 1)})")
        self.assertEqual(repr(Claim({}, {"a": 0})), "Claim({}, {})")

    def test_nothing_that_was_passed_or_returned_changes_it(self):
        dues, tolls = {1: 3}, {"a": 1}
        claim = Claim(dues, tolls)
        dues[2] = 1
        tolls["a"] = 5
        claim.dues()[3] = 1
        claim.tolls().clear()
        claim + claim, claim * 3
        self.assertEqual(claim, Claim({1: 3}, {"a": 1}))

    def test_floor(self):
        self.assertTrue(is_same([floor(CLAIM, chart) for chart in ((0,), (0, 2), (0, 1, 2), (7,))],
                                [Ratio(0), Ratio(1, 2), Ratio(3), Ratio(0)]))
        self.assertEqual(floor(claim=CLAIM, chart=(1,)), Ratio(3))
        for value in [*ODD_VALUES, [0, 1], (1, 0), (0, 0), (0, 8), (-1, 0), (False, 1), (0, True), (Ratio(1),), "01", 1]:
            self.assertEqual(raised(floor, CLAIM, value), ("InvalidChart", value))

    def test_the_floor_of_a_sum(self):
        chance = random.Random(31)
        for _ in range(50):
            one, other = ({place: random_number(chance, 0, 9) for place in range(4)} for _ in range(2))
            chart = tuple(sorted(chance.sample(range(5), 3)))
            both = floor(Claim(one) + Claim(other), chart)
            self.assertTrue(both.is_at_most(floor(Claim(one), chart) + floor(Claim(other), chart)))


def random_case(chance):
    places = chance.randint(2, 5)
    steps = {(chance.randrange(places), chance.choice("abc"), chance.randrange(places)) for _ in range(9)}
    machine = Machine(places, sorted(steps), [0])
    heard = machine.letters if chance.random() < 0.7 else random_heard(chance, machine)
    dues = {place: random_number(chance, 0, 4) for place in range(1, places)}
    high = chance.choice([-1, 0, 1])
    claim = Claim(dues, {letter: random_number(chance, -2, high) for letter in heard if chance.random() < 0.7})
    return machine, heard, claim, chance.choice(all_charts(machine, heard))


def graph(machine, heard, chart):
    found, waiting = {}, [chart]
    while waiting:
        known = waiting.pop()
        if known not in found:
            found[known] = {letter: chart_then(machine, heard, known, letter)
                            for letter in next_letters(machine, heard, known)}
            waiting.extend(found[known].values())
    return found


def worth_by_word(table, claim, chart, longest):
    """From words of at most so many letters to floors and tolls together."""
    found, level = {}, {"": chart}
    for _ in range(longest + 1):
        for word, known in level.items():
            found[word] = fraction(floor(claim, known)) + fraction(claim.tolls_of(word))
        level = {word + letter: then for word, known in level.items() for letter, then in table[known].items()}
    return found


def has_rise_without_end(table, claim):
    """Longest ways between all pairs of charts, as often as there are charts: does one come back above 0?"""
    charts = list(table)
    far = {}
    for chart in charts:
        for letter, then in table[chart].items():
            toll = fraction(claim.toll(letter))
            far[chart, then] = max(toll, far.get((chart, then), toll))
    for middle in charts:
        for one in charts:
            for two in charts:
                if (one, middle) in far and (middle, two) in far:
                    through = far[one, middle] + far[middle, two]
                    far[one, two] = max(through, far.get((one, two), through))
    return any(far.get((chart, chart), Fraction(0)) > 0 for chart in charts)


class Outlooks(unittest.TestCase):
    def test_against_slow_ways(self):
        chance, kinds = random.Random(32), {"endless": 0, "spent": 0, "rising": 0}
        for _ in range(250):
            machine, heard, claim, chart = random_case(chance)
            table = graph(machine, heard, chart)
            if has_rise_without_end(table, claim):
                kinds["endless"] += 1
                self.endless(machine, heard, claim, chart)
            elif len(table) <= 6:
                kinds[self.with_end(machine, heard, claim, chart, table)] += 1
        self.assertTrue(all(many > 20 for many in kinds.values()), kinds)

    def endless(self, *case):
        self.assertIsNone(greatest_floor(*case))
        self.assertIsNone(ceilings(*case))
        self.assertIsNone(rise(*case))
        self.assertIs(is_spent(*case), False)
        ahead, ring = found = toll_round(*case)
        self.assertIs(is_toll_round(*case, found), True)
        machine, heard, claim, chart = case
        for letter in ahead:
            chart = chart_then(machine, heard, chart, letter)
        begin = chart
        for letter in ring:
            chart = chart_then(machine, heard, chart, letter)
        self.assertEqual(chart, begin)
        self.assertGreater(sum(fraction(claim.toll(letter)) for letter in ring), 0)
        self.assertEqual(found, toll_round(*case))

    def with_end(self, machine, heard, claim, chart, table):
        case = (machine, heard, claim, chart)
        found = worth_by_word(table, claim, chart, min(len(table), 6))
        top = greatest_floor(*case)
        self.assertIsInstance(top, Ratio)
        self.assertEqual(fraction(top), max(found.values()))
        self.assertIsNone(toll_round(*case))
        own = floor(claim, chart)
        above = [word for word in found if found[word] > fraction(own)]
        self.assertIs(is_spent(*case), not above)
        self.assertEqual(rise(*case), by_length(above)[0] if above else None)
        self.all_ceilings(case, table)
        return "rising" if above else "spent"

    def all_ceilings(self, case, table):
        machine, heard, claim, chart = case
        least = ceilings(*case)
        self.assertEqual(list(least), sorted(table))
        for known in table:
            self.assertEqual(least[known], greatest_floor(machine, heard, claim, known))
        self.assertIs(is_ceilings(*case, least), True)
        for known in table:
            self.assertIs(is_ceilings(*case, {**least, known: least[known] - Ratio(1, 9)}), False)
            self.assertIs(is_ceilings(*case, {other: least[other] for other in least if other != known}), False)
        self.assertIs(is_ceilings(*case, {known: least[known] + 7 for known in least}), True)

    def test_many_charts(self):
        steps = [(place, "a", (place + 1) % 8) for place in range(8)] + [(place, "b", place) for place in range(1, 8)] \
            + [(0, "b", 1)] + [(place, "c", place) for place in range(8)] + [(0, "c", 1)]
        machine = Machine(8, steps, [0])
        dues = {place: Ratio(999983 - place, 100003 + 2 * place) for place in range(8)}
        tolls = {"a": Ratio(-1, 999979), "b": Ratio(-999983, 100003), "c": 0}
        found = ceilings(machine, "abc", Claim(dues, tolls), (0,))
        self.assertEqual(len(found), 255)
        self.assertIs(is_ceilings(machine, "abc", Claim(dues, tolls), (0,), found), True)
        case = (machine, "abc", Claim(dues, {**tolls, "c": Ratio(1, 999979)}), (0,))
        self.assertIs(is_toll_round(*case, toll_round(*case)), True)

    def test_a_long_ring(self):
        ring = Machine(8, [(place, "a", place + 1) for place in range(7)] + [(7, "b", 0)], [0])
        slow = Claim({5: 8}, {"a": -1, "b": 7})
        self.assertEqual(greatest_floor(ring, "ab", slow, (0,)), Ratio(3))
        self.assertEqual(rise(ring, "ab", slow, (0,)), "aaaaa")
        quick = Claim({5: 8}, {"a": -1, "b": Ratio(15, 2)})
        self.assertIsNone(greatest_floor(ring, "ab", quick, (0,)))
        ahead, around = toll_round(ring, "ab", quick, (3,))
        self.assertEqual(sorted(around), list("aaaaaaab"))
        self.assertIs(is_toll_round(ring, "ab", quick, (3,), ("a" * 4 + "b", "a" * 7 + "b")), True)

    def test_rise_takes_the_shortest_then_the_first(self):
        fork = Machine(5, [(0, "a", 1), (1, "a", 2), (0, "b", 3), (0, "c", 4)], [0])
        self.assertEqual(rise(fork, "abc", Claim({2: 9, 3: 1, 4: 5}), (0,)), "b")
        self.assertEqual(rise(fork, "abc", Claim({2: 9, 3: 1, 4: 5}, {"b": -1}), (0,)), "c")
        self.assertEqual(rise(fork, "abc", Claim({2: 9, 3: 1, 4: 5}, {"b": -1, "c": -5}), (0,)), "aa")
        self.assertEqual(rise(fork, "a", Claim({2: 9}, {"a": -4}), (0, 3, 4)), "aa")
        self.assertIsNone(rise(fork, "a", Claim({2: 9, 3: 1}, {"a": -4}), (0, 3, 4)))
        self.assertIsNone(rise(fork, "a", Claim({2: 9, 3: 2}, {"a": -4}), (0, 3, 4)))

    def test_rise_reckons_with_the_tolls_that_were_paid(self):
        fork = Machine(4, [(0, "a", 1), (1, "a", 2), (1, "b", 3)], [0])
        self.assertEqual(rise(fork, "ab", Claim({0: 1, 2: 3, 3: 9}, {"a": -1}), (0,)), "ab")
        self.assertEqual(rise(fork, "ab", Claim({0: 1, 2: 4, 3: 9}, {"a": -1}), (0,)), "aa")
        self.assertEqual(rise(fork, "ab", Claim({0: 3, 2: 1, 3: 9}, {"a": Ratio(3, 4)}), (0,)), "ab")

    def test_rounds_without_tolls_are_no_rounds_of_tolls(self):
        even = Claim({1: 2}, {"a": 0, "b": 0})
        self.assertIs(is_toll_round(LOOP, "ab", even, (0,), ("", "a")), False)
        self.assertIsNone(toll_round(LOOP, "ab", even, (0,)))
        self.assertEqual(greatest_floor(LOOP, "ab", even, (0,)), Ratio(2))

    def test_ceilings_of_any_value(self):
        right = {(0,): 3, (1,): Ratio(3)}
        claim = Claim({1: 2}, {"b": 0})
        self.assertIs(is_ceilings(LOOP, "ab", claim, (0,), right), True)
        self.assertIs(is_ceilings(LOOP, "ab", claim, (0,), {(0, 1): 3, **right}), True)
        self.assertIs(is_ceilings(LOOP, "ab", claim, (0, 1), {(0, 1): 2, (0,): 2, (1,): 2}), True)
        wrong = [*ODD_VALUES, {(1,): 3}, {(0,): 3}, {(0,): 3, (1,): 4}, {(0,): 1, (1,): 1}, {(0,): 3, (1,): None},
                 {(0,): 3, (True,): 3}, {(0,): True, (1,): 3}, {**right, (2,): 3}, {**right, "x": 3}, {**right, (): 3},
                 {**right, (1, 0): 3}, {**right, None: 3}, {**right, (0, 1): 1}, list(right.items()), {**right, 0: 3}]
        for value in wrong:
            self.assertIs(is_ceilings(LOOP, "ab", claim, (0,), value), False, value)
        self.assertIs(is_ceilings(LOOP, "ab", claim, (0, 1), right), False)
        self.assertIs(is_ceilings(NET, "ab", Claim({}), (2,), {(2,): 0, (0,): 0}), False)

    def test_rounds_of_any_value(self):
        claim = Claim({}, {"a": 1, "b": -1})
        for value in (("", "a"), ("bb", "aa"), ("b", "baaab")):
            self.assertIs(is_toll_round(LOOP, "ab", claim, (0,), value), True)
        wrong = [*ODD_VALUES, ["", "a"], ("a",), ("", "a", ""), ("", ""), ("b", "a"), ("", "b"), ("", "ab"), ("", "bb"),
                 ("", "c"), ("c", "a"), ("", None), (None, "a"), ("", ["a"]), ("b", "baab"), "aa", {"": "a"}]
        for value in wrong:
            self.assertIs(is_toll_round(LOOP, "ab", claim, (0,), value), False, value)
        self.assertIs(is_toll_round(LOOP, "b", Claim({}, {"b": 1}), (0,), ("", "a")), False)

    def test_names_of_parameters(self):
        case = {"machine": NET, "heard": "ab", "claim": CLAIM, "chart": (0, 2)}
        self.assertEqual(greatest_floor(**case), Ratio(3))
        self.assertEqual((rise(**case), is_spent(**case), toll_round(**case)), ("a", False, None))
        self.assertIs(is_ceilings(**case, value=ceilings(**case)), True)
        self.assertIs(is_toll_round(**case, value=None), False)

    def test_results_are_new(self):
        ceilings(NET, "ab", CLAIM, (2,)).clear()
        self.assertTrue(is_same(ceilings(NET, "ab", CLAIM, (2,)), {(2,): Ratio(1, 2)}))


class Errors(unittest.TestCase):
    def calls(self):
        plain = [greatest_floor, ceilings, is_spent, rise, toll_round]
        judges = [is_ceilings, is_toll_round]
        return plain + [lambda *case, judge=judge: judge(*case, None) for judge in judges]

    def test_in_their_sequence(self):
        wide = Claim({6: 1, 3: 1, 0: 1}, {"z": 1, "c": 1})
        for call in self.calls():
            for value in [None, "ba", "abc", True, ["a"]]:
                self.assertEqual(raised(call, NET, value, wide, None), ("InvalidHeard", value))
            for value in [None, (0,), [2], (True,), (3,), ()]:
                self.assertEqual(raised(call, NET, "ab", wide, value), ("InvalidChart", value))
            self.assertEqual(raised(call, NET, "ab", wide, (2,)), ("UnknownPlace", 3))
            self.assertEqual(raised(call, NET, "ab", Claim({2: 1}, {"z": 1, "c": 1, "a": 1}), (2,)),
                             ("UnheardLetter", "c"))
            self.assertEqual(raised(call, NET, "b", Claim({}, {"a": 1}), first_chart(NET, "b")),
                             ("UnheardLetter", "a"))
            self.assertIsNone(raised(call, NET, "ab", Claim({7: 0}, {"z": 0}), (2,)))


if __name__ == "__main__":
    unittest.main()
