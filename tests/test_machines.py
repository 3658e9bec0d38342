import random
import unittest

from helper import ODD_VALUES, is_same, raised
from machinery import random_machine

from heardquotes.machines import Machine
from heardquotes.ratios import Ratio

NET = Machine(3, [(0, "a", 1), (0, "", 2), (1, "b", 0), (2, "a", 2)], [0])


def all_steps(many, letters="abcde"):
    return [(start, letter, stop) for start in range(8) for letter in letters for stop in range(8)][:many]


class Building(unittest.TestCase):
    def test_parts(self):
        machine = Machine(begins=(2, 0), steps=((1, "z", 0), (0, "", 1), (0, "b", 2)), places=3)
        self.assertEqual((machine.places, machine.letters), (3, "bz"))
        self.assertTrue(is_same(machine.steps(), [(0, "", 1), (0, "b", 2), (1, "z", 0)]))
        self.assertTrue(is_same(machine.begins(), [0, 2]))

    def test_the_sequence_has_no_effect(self):
        chance = random.Random(1)
        for _ in range(30):
            machine = random_machine(chance, most_places=8, most_steps=12)
            steps, begins = machine.steps(), machine.begins()
            chance.shuffle(steps)
            chance.shuffle(begins)
            other = Machine(machine.places, steps, begins)
            self.assertIs(machine == other, True)
            self.assertEqual(repr(machine), repr(other))

    def test_limits(self):
        self.assertEqual([Machine(places, [], [0]).places for places in (1, 8)], [1, 8])
        self.assertEqual(len(Machine(8, all_steps(40), [0]).steps()), 40)
        self.assertEqual(raised(Machine, 8, all_steps(41), [0]), ("TooMany", "steps", 40))
        self.assertEqual(raised(Machine, 8, all_steps(41), [8]), ("InvalidBegins", 0))
        six = [(0, letter, 0) for letter in "fedcba"]
        self.assertEqual(Machine(1, six + [(0, "", 0)], [0]).letters, "abcdef")
        self.assertEqual(raised(Machine, 1, six + [(0, "g", 0)], [0]), ("TooMany", "letters", 6))
        seven = [(start, letter, 0) for start in range(8) for letter in "abcdefg"]
        self.assertEqual(raised(Machine, 8, seven, [0]), ("TooMany", "steps", 40))
        self.assertEqual(raised(Machine, 8, seven, []), ("InvalidBegins", None))
        self.assertEqual(Machine(1, [], [0]).letters, "")

    def test_wrong_places(self):
        for value in [*ODD_VALUES, 0, 9, -1, Ratio(2), "3"]:
            self.assertEqual(raised(Machine, value, None, None), ("InvalidPlaces", value))
        self.assertIs(raised(Machine, True, [], [0])[1], True)

    def test_wrong_steps(self):
        for value in [None, 3, "ab", {}, True, {(0, "a", 0): 1}]:
            self.assertEqual(raised(Machine, 2, value, None), ("InvalidSteps", None))
        good = (0, "a", 1)
        for value in [*ODD_VALUES, [0, "b", 1], (0, "b"), (0, "b", 1, 1), (0, "B", 1), (0, "ab", 1), (2, "b", 1),
                      (0, "b", 2), (-1, "b", 0), (False, "b", 1), (0, "b", True), (0, None, 1), ("0", "b", 1),
                      (Ratio(0), "b", 1), (0, ["b"], 1), (0, b"", 1), ([0], "b", 1), good]:
            self.assertEqual(raised(Machine, 2, [good, (1, "", 1), value, None], None), ("InvalidSteps", 2))
        self.assertEqual(raised(Machine, 2, all_steps(9), [0]), ("InvalidSteps", 2))

    def test_wrong_begins(self):
        for value in [None, 0, "0", {0: 0}, True, [], ()]:
            self.assertEqual(raised(Machine, 2, [], value), ("InvalidBegins", None))
        for value in [*ODD_VALUES, 2, -1, 0, Ratio(1), [1]]:
            self.assertEqual(raised(Machine, 2, [], [0, value, 5]), ("InvalidBegins", 1))
        self.assertEqual(raised(Machine, 2, [], [True]), ("InvalidBegins", 0))

    def test_equality_and_repr(self):
        self.assertIs(NET == Machine(3, NET.steps(), (0,)), True)
        self.assertIs(NET == Machine(4, NET.steps(), [0]), False)
        self.assertIs(NET == Machine(3, NET.steps(), [0, 1]), False)
        self.assertIs(NET == NET.without_step((0, "", 2)), False)
        self.assertIs(NET != NET.without_step((0, "", 2)), True)
        for value in (None, repr(NET), NET.steps(), 3):
            self.assertIs(NET == value, False)
        self.assertEqual(repr(Machine(2, [(0, "a", 1)], [0])), "Machine(2, [(0, 'a', 1)], [0])")
        self.assertEqual(repr(Machine(2, [(1, "b", 1), (1, "", 0)], (1, 0))),
                         "Machine(2, [(1, '', 0), (1, 'b', 1)], [0, 1])")

    def test_nothing_that_was_passed_or_returned_changes_it(self):
        steps, begins = [(0, "a", 1)], [0]
        machine = Machine(2, steps, begins)
        steps.append((1, "b", 1))
        begins.append(1)
        machine.steps().append(3)
        machine.begins().append(3)
        machine.come_to().append(3)
        machine.with_step((1, "b", 1)), machine.without_step((0, "a", 1)), machine.renumbered([1, 0])
        machine.relettered({"a": ""}), machine.beside(machine), machine.trimmed()
        self.assertEqual(repr(machine), "Machine(2, [(0, 'a', 1)], [0])")
        self.assertEqual(machine.come_to(), [0, 1])


class Others(unittest.TestCase):
    def test_with_and_without_a_step(self):
        more = NET.with_step(step=(2, "c", 0))
        self.assertEqual(more.steps(), sorted(NET.steps() + [(2, "c", 0)]))
        self.assertEqual(more.without_step(step=(2, "c", 0)), NET)
        self.assertEqual(NET.with_step((0, "", 0)).letters, "ab")
        wrong = [*ODD_VALUES, [2, "c", 0], (2, "c", 3), (2, "cc", 0), (2, "c"), (False, "c", 0), (2, "C", 0), (2, [], 0)]
        for value in wrong + [(0, "a", 1)]:
            self.assertEqual(raised(NET.with_step, value), ("InvalidStep", value))
        for value in wrong + [(0, "a", 2), (False, "a", 1), (0, "a", True)]:
            self.assertEqual(raised(NET.without_step, value), ("InvalidStep", value))
        self.assertEqual(Machine(1, [(0, "a", 0)], [0]).without_step((0, "a", 0)), Machine(1, [], [0]))

    def test_one_step_too_many(self):
        full = Machine(8, all_steps(40), [0])
        self.assertEqual(raised(full.with_step, (7, "a", 7)), ("TooMany", "steps", 40))
        self.assertEqual(raised(full.with_step, (0, "a", 0)), ("InvalidStep", (0, "a", 0)))
        six = Machine(1, [(0, letter, 0) for letter in "abcdef"], [0])
        self.assertEqual(raised(six.with_step, (0, "g", 0)), ("TooMany", "letters", 6))
        self.assertEqual(len(six.with_step((0, "", 0)).steps()), 7)

    def test_renumbered(self):
        self.assertEqual(NET.renumbered([2, 0, 1]),
                         Machine(3, [(2, "a", 0), (2, "", 1), (0, "b", 2), (1, "a", 1)], [2]))
        self.assertEqual(NET.renumbered(order=(0, 1, 2)), NET)
        for value in [*ODD_VALUES, [0, 1], [0, 1, 2, 3], [0, 1, 1], [1, 2, 3], [0, True, 2], [False, 1, 2],
                      [0, 1, None], "012", {0: 0, 1: 1, 2: 2}, [Ratio(0), 1, 2], 3]:
            self.assertEqual(raised(NET.renumbered, value), ("InvalidOrder", value))
        chance = random.Random(2)
        for _ in range(30):
            machine = random_machine(chance, most_places=8, most_steps=12)
            order = list(range(machine.places))
            chance.shuffle(order)
            back = [order.index(at) for at in range(machine.places)]
            moved = machine.renumbered(order)
            self.assertEqual(moved.renumbered(back), machine)
            self.assertEqual(moved.begins(), sorted(order[place] for place in machine.begins()))

    def test_relettered(self):
        machine = Machine(2, [(0, "a", 1), (0, "b", 1), (0, "", 1), (1, "c", 0)], [0])
        self.assertEqual(machine.relettered({"a": "z", "b": "z", "c": "a"}),
                         Machine(2, [(0, "z", 1), (0, "", 1), (1, "a", 0)], [0]))
        self.assertEqual(machine.relettered(letters={"c": "", "b": "", "a": ""}),
                         Machine(2, [(0, "", 1), (1, "", 0)], [0]))
        self.assertEqual(machine.relettered({"a": "b", "b": "a", "c": "c"}), machine)
        self.assertEqual(Machine(1, [(0, "", 0)], [0]).relettered({}), Machine(1, [(0, "", 0)], [0]))
        good = {"a": "a", "b": "b", "c": "c"}
        wrong = [{"a": "a", "b": "b"}, {**good, "d": "d"}, {**good, "": ""}, {**good, "c": "cc"}, {**good, "c": None},
                 {**good, "c": "C"}, {**good, 1: "a"}, {**good, "c": b""}, {**good, "c": ["c"]}, {1: "a", "b": "b"},
                 {True: "a", "b": "b", "c": "c"}, "abc", list(good), [("a", "a")]]
        for value in [*ODD_VALUES, *wrong]:
            self.assertEqual(raised(machine.relettered, value), ("InvalidLetters", value))

    def test_beside(self):
        other = Machine(2, [(0, "b", 1), (1, "", 1)], [1])
        self.assertEqual(NET.beside(other), Machine(5, NET.steps() + [(3, "b", 4), (4, "", 4)], [0, 4]))
        self.assertEqual(other.beside(other=NET), Machine(5, other.steps() + [
            (2, "a", 3), (2, "", 4), (3, "b", 2), (4, "a", 4)], [1, 2]))
        for value in [*ODD_VALUES, 3, repr(NET)]:
            self.assertEqual(raised(NET.beside, value), ("InvalidOther", value))

    def test_beside_beyond_the_limits(self):
        loops = [(0, letter, 0) for letter in "abcdef"]
        many = Machine(4, [(start, letter, stop) for start in range(4) for letter in "ab" for stop in range(3)], [0])
        self.assertEqual(raised(many.beside, Machine(5, [(0, "z", 0)] + loops[:5], [0])), ("TooMany", "places", 8))
        self.assertEqual(raised(many.beside, many), ("TooMany", "steps", 40))
        self.assertEqual(raised(Machine(1, loops, [0]).beside, Machine(1, [(0, "g", 0)], [0])),
                         ("TooMany", "letters", 6))
        self.assertEqual(Machine(4, [], [0]).beside(Machine(4, [], [3])), Machine(8, [], [0, 7]))

    def test_come_to(self):
        self.assertEqual(NET.come_to(), [0, 1, 2])
        self.assertEqual(Machine(4, [(1, "", 3), (3, "a", 3), (2, "b", 1)], [1]).come_to(), [1, 3])
        self.assertEqual(Machine(3, [], [2, 0]).come_to(), [0, 2])

    def test_trimmed(self):
        machine = Machine(5, [(1, "", 3), (3, "a", 3), (2, "b", 1), (3, "c", 4)], [3, 1])
        self.assertEqual(machine.trimmed(), Machine(3, [(0, "", 1), (1, "a", 1), (1, "c", 2)], [0, 1]))
        self.assertEqual(NET.trimmed(), NET)
        chance = random.Random(4)
        for _ in range(40):
            machine = random_machine(chance, most_places=8, most_steps=12)
            kept, less = machine.come_to(), machine.trimmed()
            self.assertEqual(less.places, len(kept))
            self.assertEqual(less.begins(), [kept.index(place) for place in machine.begins()])
            self.assertEqual([(kept[start], letter, kept[stop]) for start, letter, stop in less.steps()],
                             [step for step in machine.steps() if step[0] in kept])
            self.assertEqual(less.trimmed(), less)


if __name__ == "__main__":
    unittest.main()
