import random
import unittest

from helper import ODD_VALUES, is_same, raised
from machinery import by_length, random_heard, random_machine, stops_by_word

from heardquotes.charts import all_charts, chart_behind, chart_then, first_chart, is_chart, least_word, next_letters
from heardquotes.charts import words
from heardquotes.machines import Machine
from heardquotes.ratios import Ratio

NET = Machine(3, [(0, "a", 1), (0, "", 2), (1, "b", 0), (2, "a", 2)], [0])
WRONG_HEARD = [value for value in ODD_VALUES if value != ""] + ["ba", "aa", "c", "abc", ["a"], ("a", "b"), 3]
WRONG_CHARTS = [*ODD_VALUES, [0, 2], (2, 0), (0, 0, 2), (0,), (0, 2, 3), (-1,), (False, 2), (2, True), "02", 0,
                (Ratio(2),), ((2,),), (0, 1)]


def some_machines(many, **more):
    chance = random.Random(11)
    for _ in range(many):
        machine = random_machine(chance, **more)
        yield machine, random_heard(chance, machine)


class Charts(unittest.TestCase):
    def test_the_chart_behind_a_word_is_where_runs_stop(self):
        for machine, heard in some_machines(120):
            table = stops_by_word(machine, heard, 4)
            self.assertEqual(first_chart(machine, heard), tuple(sorted(table[""])))
            for word, places in table.items():
                chart = chart_behind(machine, heard, word)
                self.assertEqual(chart, tuple(sorted(places)))
                self.assertIs(is_chart(machine, heard, chart), True)
                if len(word) < 4:
                    behind = {letter: tuple(sorted(table[word + letter])) for letter in "abc" if word + letter in table}
                    self.assertEqual(next_letters(machine, heard, chart), "".join(sorted(behind)))
                    for letter in "abcz":
                        self.assertEqual(chart_then(machine, heard, chart, letter), behind.get(letter))

    def test_words(self):
        for machine, heard in some_machines(80):
            table = stops_by_word(machine, heard, 4)
            self.assertEqual(words(machine, heard, 4), by_length(table))
            self.assertEqual(words(machine, heard, 0), [""])
            self.assertIsNone(chart_behind(machine, heard, "z"))

    def test_all_charts_and_least_words(self):
        for machine, heard in some_machines(80, most_places=3):
            table = stops_by_word(machine, heard, 6)
            charts = {tuple(sorted(places)) for places in table.values()}
            self.assertEqual(all_charts(machine, heard), sorted(charts))
            for chart in charts:
                self.assertEqual(least_word(machine, heard, chart),
                                 by_length(word for word in table if tuple(sorted(table[word])) == chart)[0])

    def test_which_tuples_are_charts(self):
        for machine, heard in some_machines(40, most_places=4):
            for bits in range(1, 2 ** machine.places):
                tried = tuple(place for place in range(machine.places) if bits >> place & 1)
                closed = stops_by_word(machine, heard, 0, tried)[""] == set(tried)
                self.assertIs(is_chart(machine, heard, tried), closed)
                if closed and tried not in all_charts(machine, heard):
                    self.assertIsNone(least_word(machine, heard, tried))

    def test_charts_to_which_no_word_leads(self):
        self.assertIs(is_chart(NET, "ab", (1,)), True)
        self.assertIsNone(least_word(NET, "ab", (1,)))
        self.assertEqual(chart_then(NET, "ab", (1,), "b"), (0, 2))
        self.assertEqual(next_letters(NET, "ab", (1,)), "b")

    def test_letters_that_are_not_heard(self):
        self.assertEqual(first_chart(NET, ""), (0, 1, 2))
        self.assertEqual(all_charts(NET, ""), [(0, 1, 2)])
        self.assertEqual(words(NET, "", 10 ** 30), [""])
        self.assertEqual(next_letters(NET, "", (0, 1, 2)), "")
        self.assertIsNone(chart_then(NET, "b", (0, 1, 2), "a"))
        self.assertIsNone(chart_behind(NET, "b", "a"))
        self.assertEqual(chart_then(NET, "b", (0, 1, 2), "b"), (0, 1, 2))

    def test_several_begins(self):
        machine = Machine(4, [(0, "a", 1), (3, "", 2)], [3, 0])
        self.assertEqual(first_chart(machine, "a"), (0, 2, 3))
        self.assertEqual(chart_behind(machine, "a", "a"), (1,))
        self.assertIsNone(chart_behind(machine, "a", "aa"))

    def test_long_words(self):
        self.assertEqual(chart_behind(NET, "ab", "a" * 3000), (2,))
        self.assertEqual(chart_behind(NET, "ab", "ab" * 1500), (0, 2))
        self.assertIsNone(chart_behind(NET, "ab", "a" * 3000 + "b"))

    def test_many_charts(self):
        places = range(8)
        steps = [(place, "a", (place + 1) % 8) for place in places] + [(place, "b", place) for place in range(1, 8)] \
            + [(0, "b", 1)] + [(place, "c", place) for place in places] + [(0, "c", 1)]
        charts = all_charts(Machine(8, steps, [0]), "abc")
        self.assertEqual(len(charts), 255)
        self.assertEqual(charts, sorted(charts))

    def test_five_hundred_words_and_more(self):
        loops = Machine(1, [(0, "a", 0)], [0])
        self.assertEqual(words(loops, "a", 499), ["a" * many for many in range(500)])
        self.assertEqual(raised(words, loops, "a", 500), ("TooMany", "words", 500))
        self.assertEqual(raised(words, loops, "a", 10 ** 40), ("TooMany", "words", 500))
        pair = Machine(1, [(0, "a", 0), (0, "b", 0)], [0])
        self.assertEqual(len(words(pair, "ab", 7)), 255)
        self.assertEqual(raised(words, pair, "ab", 8), ("TooMany", "words", 500))
        ends = Machine(2, [(0, "a", 1)], [0])
        self.assertEqual(words(machine=ends, heard="a", many=10 ** 40), ["", "a"])

    def test_results_are_new_lists(self):
        all_charts(NET, "ab").append(3)
        words(NET, "ab", 1).append(3)
        self.assertTrue(is_same(all_charts(NET, "ab"), [(0, 2), (1, 2), (2,)]))
        self.assertTrue(is_same(words(NET, "ab", 1), ["", "a"]))


class Wrong(unittest.TestCase):
    def test_heard(self):
        calls = [lambda heard: is_chart(NET, heard, None), lambda heard: first_chart(NET, heard),
                 lambda heard: chart_then(NET, heard, None, None), lambda heard: chart_behind(NET, heard, None),
                 lambda heard: next_letters(NET, heard, None), lambda heard: all_charts(NET, heard),
                 lambda heard: words(NET, heard, None), lambda heard: least_word(NET, heard, None)]
        for value in WRONG_HEARD:
            for call in calls:
                self.assertEqual(raised(call, value), ("InvalidHeard", value))

    def test_charts(self):
        calls = [lambda chart: chart_then(NET, "ab", chart, None), lambda chart: next_letters(NET, "ab", chart),
                 lambda chart: least_word(NET, "ab", chart)]
        for value in WRONG_CHARTS:
            self.assertIs(is_chart(NET, "ab", value), False)
            for call in calls:
                self.assertEqual(raised(call, value), ("InvalidChart", value))

    def test_letters_words_and_counts(self):
        for value in [*ODD_VALUES, "ab", "aa", 3]:
            self.assertEqual(raised(chart_then, NET, "ab", (2,), value), ("InvalidLetter", value))
        for value in [value for value in ODD_VALUES if value != ""] + [3, "a b", ["a"]]:
            self.assertEqual(raised(chart_behind, NET, "ab", value), ("InvalidWord", value))
        for value in [*ODD_VALUES, -1, Ratio(1), "1"]:
            self.assertEqual(raised(words, NET, "ab", value), ("InvalidMany", value))

    def test_names_of_parameters(self):
        self.assertEqual(chart_then(machine=NET, heard="ab", chart=(0, 2), letter="a"), (1, 2))
        self.assertEqual(chart_behind(machine=NET, heard="ab", word="aa"), (2,))
        self.assertEqual(least_word(machine=NET, heard="ab", chart=(2,)), "aa")
        self.assertIs(is_chart(machine=NET, heard="ab", value=(2,)), True)
        self.assertEqual(next_letters(machine=NET, heard="ab", chart=(2,)), "a")


class Facts(unittest.TestCase):
    def test_trimmed_machines_have_the_same_words(self):
        for machine, heard in some_machines(60):
            kept, less = machine.come_to(), machine.trimmed()
            rest = "".join(letter for letter in heard if letter in less.letters)
            for word in words(machine, heard, 3):
                self.assertEqual(chart_behind(machine, heard, word),
                                 tuple(kept[place] for place in chart_behind(less, rest, word)))
            self.assertEqual(words(machine, heard, 3), words(less, rest, 3))

    def test_machines_beside_one_another(self):
        chance = random.Random(12)
        for _ in range(40):
            one, other = random_machine(chance, "ab", 4, 6), random_machine(chance, "bc", 4, 6)
            both = one.beside(other)
            heard = random_heard(chance, both)
            mine = "".join(letter for letter in heard if letter in one.letters)
            yours = "".join(letter for letter in heard if letter in other.letters)
            for word in words(both, heard, 3):
                first, second = chart_behind(one, mine, word) or (), chart_behind(other, yours, word) or ()
                self.assertEqual(chart_behind(both, heard, word),
                                 first + tuple(place + one.places for place in second))

    def test_a_silent_letter_leads_as_one_that_is_not_heard(self):
        for machine, heard in some_machines(60):
            silent = machine.relettered({letter: letter if letter in heard else "" for letter in machine.letters})
            self.assertEqual(all_charts(machine, heard), all_charts(silent, heard))


if __name__ == "__main__":
    unittest.main()
