import random
import unittest

from helper import ODD_VALUES, is_same, raised
from machinery import random_heard, random_machine, stops_by_word

from heardquotes.machines import Machine
from heardquotes.ratios import Ratio
from heardquotes.runs import heard_of, is_run, run_for, runs, stop_of

NET = Machine(3, [(0, "a", 1), (0, "", 2), (1, "b", 0), (2, "a", 2)], [0])
RIGHT = [(0, []), (0, ()), (0, [(0, "a", 1)]), (0, ((0, "a", 1), (1, "b", 0), (0, "", 2))),
         (0, [(0, "", 2), (2, "a", 2), (2, "a", 2)])]
WRONG = [*ODD_VALUES, (1, []), (3, []), (False, []), [0, []], (0,), (0, [], []), (0, None), (0, [(0, "b", 1)]),
         (0, [(1, "b", 0)]), (0, [(0, "a", 1), (0, "", 2)]), (0, [[0, "a", 1]]), (0, [(False, "a", 1)]),
         (0, [(0, "a", True)]), (0, [(0, "a")]), (0, {(0, "a", 1): 1}), (0, "a"), (0, [None]), ("0", []),
         (Ratio(0), []), ([0], []), (0, [(0, "a", 2)]), (0, [(0, ["a"], 1)]), 0]


def slow_runs(machine, many):
    found = [(place, []) for place in machine.begins()]
    for place, steps in found:
        stop = steps[-1][2] if steps else place
        if len(steps) < many:
            found.extend((place, steps + [step]) for step in machine.steps() if step[0] == stop)
    return sorted(found)


class Runs(unittest.TestCase):
    def test_which_values_are_runs(self):
        for value in RIGHT:
            self.assertIs(is_run(NET, value), True)
        for value in WRONG:
            self.assertIs(is_run(NET, value), False)
            self.assertEqual(raised(stop_of, NET, value), ("InvalidRun", value))
            self.assertEqual(raised(heard_of, NET, "ab", value), ("InvalidRun", value))
        self.assertIs(is_run(machine=Machine(2, [], [1, 0]), value=(1, [])), True)

    def test_stop_and_what_is_heard(self):
        self.assertEqual([stop_of(NET, run) for run in RIGHT], [0, 0, 1, 2, 2])
        self.assertEqual([heard_of(NET, "ab", run) for run in RIGHT], ["", "", "a", "ab", "aa"])
        self.assertEqual([heard_of(NET, "b", run) for run in RIGHT], ["", "", "", "b", ""])
        self.assertEqual([heard_of(machine=NET, heard="", run=run) for run in RIGHT], [""] * 5)
        self.assertEqual(stop_of(machine=NET, run=RIGHT[2]), 1)

    def test_all_runs(self):
        chance = random.Random(21)
        for _ in range(60):
            machine = random_machine(chance, "ab", 4, 5)
            for many in (0, 1, 3):
                expected = slow_runs(machine, many)
                if len(expected) > 500:
                    self.assertEqual(raised(runs, machine, many), ("TooMany", "runs", 500))
                    continue
                found = runs(machine, many)
                self.assertTrue(is_same(found, expected))
                self.assertTrue(all(is_run(machine, run) for run in found))
                self.assertEqual(len(found), len({repr(run) for run in found}))

    def test_five_hundred_runs_and_more(self):
        loop = Machine(1, [(0, "a", 0)], [0])
        self.assertEqual(len(runs(loop, 499)), 500)
        self.assertEqual(raised(runs, loop, 500), ("TooMany", "runs", 500))
        self.assertEqual(raised(runs, loop, 10 ** 40), ("TooMany", "runs", 500))
        full = Machine(8, [(start, "a", stop) for start in range(5) for stop in range(8)], list(range(8)))
        self.assertEqual(raised(runs, full, 3), ("TooMany", "runs", 500))
        self.assertEqual(runs(machine=Machine(2, [(0, "", 1)], [1, 0]), many=10 ** 40),
                         [(0, []), (0, [(0, "", 1)]), (1, [])])
        for value in [*ODD_VALUES, -1, Ratio(2), "2"]:
            self.assertEqual(raised(runs, NET, value), ("InvalidMany", value))

    def test_results_are_new(self):
        runs(NET, 1)[1][1].append(3)
        self.assertEqual(runs(NET, 1)[1], (0, [(0, "", 2)]))
        one = run_for(NET, "ab", "ab", 2)
        one[1].append(3)
        self.assertNotEqual(one, run_for(NET, "ab", "ab", 2))


class RunFor(unittest.TestCase):
    def test_against_a_slow_way(self):
        chance = random.Random(22)
        for _ in range(80):
            machine = random_machine(chance)
            heard = random_heard(chance, machine)
            table = stops_by_word(machine, heard, 3)
            for word in [*table, "z", "az", "abc"]:
                for place in range(machine.places):
                    run = run_for(machine, heard, word, place)
                    if place not in table.get(word, ()):
                        self.assertIsNone(run)
                        continue
                    self.assertIs(is_run(machine, run), True)
                    self.assertTrue(isinstance(run[1], list))
                    self.assertEqual((heard_of(machine, heard, run), stop_of(machine, run)), (word, place))
                    self.assertEqual(run, run_for(machine, heard, word, place))

    def test_rings_of_silent_steps(self):
        ring = Machine(4, [(0, "", 1), (1, "", 2), (2, "", 0), (2, "a", 2), (3, "", 0)], [0])
        self.assertEqual(run_for(ring, "a", "", 2), (0, [(0, "", 1), (1, "", 2)]))
        self.assertIsNone(run_for(ring, "a", "", 3))
        self.assertEqual(heard_of(ring, "a", run_for(ring, "a", "a" * 400, 1)), "a" * 400)

    def test_long_words(self):
        around = Machine(8, [(place, "", place + 1) for place in range(7)] + [(7, "a", 0)], [0])
        run = run_for(machine=around, heard="a", word="a" * 400, place=7)
        self.assertEqual(len(run[1]), 400 * 8 + 7)
        self.assertIs(is_run(around, run), True)
        self.assertEqual(raised(run_for, around, "a", "a" * 401, 7), ("TooMany", "letters", 400))
        self.assertEqual(raised(run_for, around, "a", "b" * 401, 7), ("TooMany", "letters", 400))
        self.assertIsNone(run_for(around, "a", "a" * 399 + "b", 0))

    def test_errors_in_their_sequence(self):
        long = "a" * 401
        for value in ["ba", "c", None, ["a"], True]:
            self.assertEqual(raised(run_for, NET, value, None, None), ("InvalidHeard", value))
            self.assertEqual(raised(heard_of, NET, value, None), ("InvalidHeard", value))
        for value in [None, 3, "A", long + "-", ["a"]]:
            self.assertEqual(raised(run_for, NET, "ab", value, None), ("InvalidWord", value))
        for value in [*ODD_VALUES, -1, 3, Ratio(0)]:
            self.assertEqual(raised(run_for, NET, "ab", long, value), ("InvalidPlace", value))


if __name__ == "__main__":
    unittest.main()
