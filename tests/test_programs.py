import random
import unittest
from fractions import Fraction

from helper import ODD_VALUES, fraction, is_same, raised, ratio

from heardquotes.programs import Program, are_alike, bar, best, highest, is_bar, is_best_paper, is_ray, is_solution
from heardquotes.programs import lean, lowest, needless, outcome, parting, ray, solution
from heardquotes.ratios import Ratio

TWO = Program(2, [([1, 1], 4), ([1, -1], 1)])
NOTHING = Program(1, [([1], 1), ([-1], -2)])
ENDLESS = Program(2, [([1, -1], 3)])


def plain(program):
    return [([fraction(weight) for weight in weights], fraction(bound)) for weights, bound in program.rows()]


def times(numbers, others):
    return sum((fraction(one) * fraction(two) for one, two in zip(numbers, others)), Fraction(0))


def solves(program, values):
    return (len(values) == program.unknowns and all(fraction(value) >= 0 for value in values)
            and all(sum(w * fraction(v) for w, v in zip(weights, values)) <= bound
                    for weights, bound in plain(program)))


def columns(program, numbers):
    rows = plain(program)
    return [sum((rows[at][0][k] * fraction(number) for at, number in enumerate(numbers)), Fraction(0))
            for k in range(program.unknowns)]


def bounds(program, numbers):
    return sum((row[1] * fraction(number) for row, number in zip(plain(program), numbers)), Fraction(0))


def bars(program, numbers):
    return (len(numbers) == len(program) and all(fraction(number) >= 0 for number in numbers)
            and all(column >= 0 for column in columns(program, numbers)) and bounds(program, numbers) < 0)


def caps(program, aim, numbers):
    return (len(numbers) == len(program) and all(fraction(number) >= 0 for number in numbers)
            and all(column >= fraction(a) for column, a in zip(columns(program, numbers), aim)))


def rises(program, aim, direction):
    return (all(fraction(step) >= 0 for step in direction) and times(aim, direction) > 0
            and all(sum(w * fraction(s) for w, s in zip(weights, direction)) <= 0 for weights, _ in plain(program)))


def random_program(chance, most_unknowns=4, most_rows=6, size=3):
    unknowns = chance.randint(1, most_unknowns)

    def number():
        top = chance.randint(-size, size)
        return top if chance.random() < 0.7 else Ratio(top, chance.randint(1, 4))
    rows = [([number() for _ in range(unknowns)], number()) for _ in range(chance.randint(0, most_rows))]
    return Program(unknowns, rows), [number() for _ in range(unknowns)]


class Building(unittest.TestCase):
    def test_rows_are_ratios_in_their_sequence(self):
        program = Program(unknowns=2, rows=(((1, Ratio(1, 2)), 3), ([0, -1], Ratio(4, 2))))
        told = [([Ratio(1), Ratio(1, 2)], Ratio(3)), ([Ratio(0), Ratio(-1)], Ratio(2))]
        self.assertTrue(is_same(program.rows(), told))
        self.assertTrue(is_same(program[1], told[1]))
        self.assertEqual((len(program), program.unknowns), (2, 2))
        self.assertEqual(Program(3).rows(), [])

    def test_class_values(self):
        self.assertEqual((Program.MOST_UNKNOWNS, Program.MOST_ROWS), (16, 24))

    def test_wrong_unknowns(self):
        for value in [*ODD_VALUES, 0, 17, -1, Ratio(2), "2"]:
            self.assertEqual(raised(Program, value, "no rows"), ("InvalidUnknowns", value))
        self.assertEqual([Program(many).unknowns for many in (1, 16)], [1, 16])

    def test_wrong_rows(self):
        good = ([1], 1)
        for value in [None, 3, "ab", {0: good}, True]:
            self.assertEqual(raised(Program, 1, value), ("InvalidRows", None))
        for value in [*ODD_VALUES, [[1], 1], ([1],), ([1], 1, 1), ([], 1), ([1, 2], 1), ([True], 1), ([1], True),
                      (1, 1), ([1], None), ("1", 1), ([None], 1), ({0: 1}, 1)]:
            self.assertEqual(raised(Program, 1, [good, good, value, None]), ("InvalidRows", 2))
        self.assertEqual(raised(Program, 1, [good] * 30 + [None]), ("InvalidRows", 30))
        self.assertEqual(raised(Program, 1, [good] * 25), ("TooMany", "rows", 24))
        self.assertEqual(len(Program(1, [good] * 24)), 24)

    def test_items(self):
        for value in [*ODD_VALUES, -1, 2, Ratio(0), slice(0, 1)]:
            self.assertEqual(raised(lambda: TWO[value]), ("InvalidPosition", value))
            self.assertEqual(raised(TWO.without, value), ("InvalidPosition", value))
            self.assertEqual(raised(TWO.with_bound, value, None), ("InvalidPosition", value))
        self.assertEqual(raised(lambda: Program(1)[0]), ("InvalidPosition", 0))
        self.assertEqual(TWO.without(0), Program(2, [([1, -1], 1)]))
        self.assertEqual(TWO.without(position=1), Program(2, [([1, 1], 4)]))
        self.assertEqual(TWO.with_bound(position=1, number=Ratio(1, 2)), Program(2, [([1, 1], 4), ([1, -1], Ratio(1, 2))]))
        self.assertEqual(TWO.with_bound(0, 7), Program(2, [([1, 1], 7), ([1, -1], 1)]))
        for value in ODD_VALUES:
            self.assertEqual(raised(TWO.with_bound, 1, value), ("InvalidNumber", value))

    def test_a_row_more(self):
        self.assertEqual((TWO + ((0, 1), 2)).rows(), TWO.rows() + [([Ratio(0), Ratio(1)], Ratio(2))])
        for value in [*ODD_VALUES, [[1, 1], 1], ([1], 1), ([1, 1, 1], 1), ([1, True], 1), 5]:
            self.assertEqual(raised(lambda: TWO + value), ("InvalidRow", value))
        full = Program(1, [([1], 1)] * 24)
        self.assertEqual(raised(lambda: full + ([1], 1)), ("TooMany", "rows", 24))
        self.assertEqual(raised(lambda: full + None), ("InvalidRow", None))

    def test_sums(self):
        self.assertTrue(is_same(TWO.sums([1, Ratio(-1, 2)]), [Ratio(1, 2), Ratio(3, 2)]))
        self.assertEqual(TWO.sums(values=(-3, -4)), [Ratio(-7), Ratio(1)])
        for value in [*ODD_VALUES, [1], [1, 2, 3], [1, None], [1, True], 2]:
            self.assertEqual(raised(TWO.sums, value), ("InvalidValues", value))

    def test_equality_and_repr(self):
        self.assertIs(TWO == Program(2, [((Ratio(1), 1), Ratio(4)), ([1, -1], 1)]), True)
        self.assertIs(TWO == Program(2, [([1, -1], 1), ([1, 1], 4)]), False)
        self.assertIs(Program(1) == Program(2), False)
        self.assertIs(TWO == TWO.rows(), False)
        self.assertIs(TWO != TWO.without(0), True)
        self.assertEqual(repr(Program(1, [((2,), 3)])), "Program(1, [([Ratio(2, 1)], Ratio(3, 1))])")
        self.assertEqual(repr(Program(2)), "Program(2, [])")

    def test_nothing_that_was_passed_or_returned_changes_it(self):
        weights, rows = [1, 1], []
        rows.append((weights, 4))
        program = Program(2, rows)
        weights[0] = 7
        rows.append(None)
        program.rows()[0][0][0] = 9
        program.rows().append(3)
        program[0][0].append(3)
        self.assertEqual(program.rows(), [([Ratio(1), Ratio(1)], Ratio(4))])
        program + ([1, 0], 1), program.without(0), program.with_bound(0, 3), program.sums([1, 1])
        self.assertEqual(program.rows(), [([Ratio(1), Ratio(1)], Ratio(4))])

    def test_it_is_not_iterated_over(self):
        with self.assertRaises(TypeError):
            list(TWO)


class Papers(unittest.TestCase):
    def all_papers(self, program, aim):
        """Just one of solution and bar, just one of bar, best paper and ray; each right by our own sums."""
        values, numbers = solution(program), bar(program)
        self.assertEqual(values is None, numbers is not None)
        kind = outcome(program, aim)
        if values is None:
            self.assertTrue(bars(program, numbers))
            self.assertIs(is_bar(program, numbers), True)
            self.assertEqual(kind, "bar")
            for function in (highest, lowest, best, ray):
                self.assertEqual(raised(function, program, aim), ("NoSolution",))
            return kind
        self.assertTrue(solves(program, values))
        self.assertIs(is_solution(program, values), True)
        self.solved_papers(program, aim, kind)
        contrary = highest(program, [-number for number in aim])
        self.assertEqual(lowest(program, aim), None if contrary is None else -contrary)
        return kind

    def solved_papers(self, program, aim, kind):
        top, rise = best(program, aim), ray(program, aim)
        if kind == "best":
            self.assertIsNone(rise)
            self.assertTrue(solves(program, top[0]) and caps(program, aim, top[1]))
            self.assertEqual(times(aim, top[0]), bounds(program, top[1]))
            self.assertIs(is_best_paper(program, aim, top), True)
            self.assertEqual(fraction(highest(program, aim)), times(aim, top[0]))
        else:
            self.assertEqual(kind, "ray")
            self.assertIsNone(top)
            self.assertTrue(solves(program, rise[0]) and rises(program, aim, rise[1]))
            self.assertIs(is_ray(program, aim, rise), True)
            self.assertIsNone(highest(program, aim))

    def test_many_programs(self):
        chance, kinds = random.Random(1), {}
        for _ in range(400):
            program, aim = random_program(chance)
            kind = self.all_papers(program, aim)
            kinds[kind] = kinds.get(kind, 0) + 1
        self.assertTrue(all(kinds[kind] > 30 for kind in ("best", "ray", "bar")), kinds)

    def test_the_greatest_programs(self):
        chance = random.Random(2)
        for size in (1, 5, 10 ** 6):
            for _ in range(4):
                rows = [([chance.randint(-size, size) for _ in range(16)], chance.randint(-size, 9 * size))
                        for _ in range(24)]
                self.all_papers(Program(16, rows), [chance.randint(-size, size) for _ in range(16)])

    def test_no_rows(self):
        for unknowns in (1, 16):
            program = Program(unknowns)
            self.assertEqual(self.all_papers(program, [0] * unknowns), "best")
            self.assertEqual(self.all_papers(program, [-1] * unknowns), "best")
            self.assertEqual(self.all_papers(program, [0] * (unknowns - 1) + [1]), "ray")

    def test_rows_without_weights(self):
        self.assertEqual(self.all_papers(Program(2, [([0, 0], -1)]), [1, 1]), "bar")
        self.assertEqual(self.all_papers(Program(2, [([0, 0], 0)]), [1, 1]), "ray")
        self.assertEqual(self.all_papers(Program(2, [([0, 0], 0)] * 24), [-1, 0]), "best")

    def test_rows_that_many_just_keep(self):
        """At the best values more rows than unknowns are just kept: a way round must not go on for ever."""
        pyramid = Program(3, [([1, 0, 1], 1), ([0, 1, 1], 1), ([-1, 0, 1], 0), ([0, -1, 1], 0), ([1, 1, 2], 2)])
        self.assertEqual(self.all_papers(pyramid, [0, 0, 1]), "best")
        self.assertEqual(highest(pyramid, [0, 0, 1]), Ratio(1, 2))
        half = Ratio(1, 2)
        circle = Program(4, [([half, Ratio(-11, 2), Ratio(-5, 2), 9], 0), ([half, Ratio(-3, 2), -half, 1], 0),
                             ([1, 0, 0, 0], 1)])
        self.assertEqual(self.all_papers(circle, [10, -57, -9, -24]), "best")
        self.assertEqual(highest(circle, [10, -57, -9, -24]), Ratio(1))
        chance = random.Random(3)
        for _ in range(60):
            point = [chance.randint(0, 2) for _ in range(3)]
            rows = [[chance.randint(-2, 2) for _ in range(3)] for _ in range(9)]
            program = Program(3, [(row, sum(w * p for w, p in zip(row, point))) for row in rows])
            self.assertNotEqual(self.all_papers(program, [chance.randint(-2, 2) for _ in range(3)]), "bar")

    def test_sums_that_have_to_be_just_a_bound(self):
        program = Program(2, [([1, 2], 3), ([-1, -2], -3)])
        self.assertEqual(highest(program, [1, 0]), Ratio(3))
        self.assertEqual(lowest(program, [1, 1]), Ratio(3, 2))

    def test_long_numbers(self):
        long = 10 ** 29 + 7
        program = Program(2, [([Ratio(long, 3), Ratio(1, long)], long), ([Ratio(-1, long), 1], Ratio(long, 7))])
        self.assertEqual(self.all_papers(program, [Ratio(long, 11), 5]), "best")

    def test_the_first_example_beside(self):
        self.assertEqual(best(TWO, [2, 1]), ([Ratio(5, 2), Ratio(3, 2)], [Ratio(3, 2), Ratio(1, 2)]))
        self.assertEqual(outcome(aim=[1, 0], program=ENDLESS), "ray")

    def test_repeated_calls_return_equal_and_new_results(self):
        for function, args in [(solution, (TWO,)), (bar, (NOTHING,)), (best, (TWO, [2, 1])), (ray, (ENDLESS, [1, 0]))]:
            one = function(*args)
            self.assertEqual(one, function(*args))
            changed = one if isinstance(one, list) else one[1]
            changed.append(3)
            self.assertNotEqual(one, function(*args))
        self.assertEqual(best(TWO, [2, 1]), best(TWO, (Ratio(2), Ratio(1))))

    def test_numbers_are_ratios_and_parts_are_lists(self):
        self.assertTrue(is_same(solution(Program(1)), [Ratio(0)]))
        values, cap = best(TWO, [1, 1])
        self.assertTrue(is_same([value.__class__ for value in values + cap], [Ratio] * 4))
        self.assertIs(best(TWO, [1, 1]).__class__, tuple)
        self.assertIs(values.__class__, list)


class Judges(unittest.TestCase):
    def test_solutions(self):
        for value in ([0, 0], (0, 0), [Ratio(5, 2), Ratio(3, 2)], [1, 0], (2, 2)):
            self.assertIs(is_solution(TWO, value), True)
        for value in [*ODD_VALUES, [0], [0, 0, 0], [-1, 0], [3, 0], [Ratio(5, 2), Ratio(8, 5)], [0, None], [0, False],
                      {0: 0, 1: 0}, "00", [[0], [0]], 0]:
            self.assertIs(is_solution(TWO, value), False)
        self.assertIs(is_solution(Program(1), [7]), True)

    def test_bars(self):
        for value in ([1, 1], (3, 3), [Ratio(1, 7), Ratio(1, 7)], [2, Ratio(3, 2)]):
            self.assertIs(is_bar(NOTHING, value), True)
        for value in [*ODD_VALUES, [1], [1, 1, 1], [1, 2], [0, 0], [2, 1], [1, -1], [-1, -1], [True, 1], (1, None), 1]:
            self.assertIs(is_bar(NOTHING, value), False)
        self.assertIs(is_bar(TWO, [0, 0]), False)
        self.assertIs(is_bar(Program(1), []), False)

    def test_best_papers(self):
        values, cap = [Ratio(5, 2), Ratio(3, 2)], [Ratio(3, 2), Ratio(1, 2)]
        for value in ((values, cap), (tuple(values), tuple(cap))):
            self.assertIs(is_best_paper(TWO, [2, 1], value), True)
            self.assertIs(is_best_paper(TWO, (Ratio(2), 1), value), True)
        wrong = [*ODD_VALUES, [values, cap], (values,), (values, cap, cap), (cap, values), (values + [0], cap),
                 (values, cap + [0]), (values[:1], cap), (values, cap[:1]), ([2, 2], cap), (values, [2, 1]),
                 (values, [Ratio(13, 8), 0]), (values, [Ratio(3, 2), True]), (None, cap), (values, None)]
        for value in wrong:
            self.assertIs(is_best_paper(TWO, [2, 1], value), False, value)
        self.assertIs(is_best_paper(TWO, [2, 2], (values, cap)), False)
        self.assertIs(is_best_paper(Program(1), [0], ([5], [])), True)

    def test_caps_have_to_be_caps(self):
        """A cap that costs what the values are worth, but is below the aim at an unknown."""
        program = Program(2, [([1, 0], 1), ([0, 1], 1)])
        self.assertIs(is_best_paper(program, [1, 1], ([1, 1], [1, 1])), True)
        self.assertIs(is_best_paper(program, [1, 1], ([1, 1], [2, 0])), False)

    def test_rays(self):
        for value in (([0, 0], [1, 1]), ((3, 0), (2, 2)), ([0, 9], [Ratio(1, 3), 1])):
            self.assertIs(is_ray(ENDLESS, [1, 0], value), True)
        wrong = [*ODD_VALUES, [[0, 0], [1, 1]], ([0, 0],), ([0, 0], [1, 1], []), ([4, 0], [1, 1]), ([0, 0], [2, 1]),
                 ([0, 0], [0, 1]), ([0, 0], [1, 1, 1]), ([0, 0], [1]), ([0], [1, 1]), ([0, 0], [-1, 1]),
                 ([0, 0], [True, 1]), ([0, 0], None), (None, [1, 1])]
        for value in wrong:
            self.assertIs(is_ray(ENDLESS, [1, 0], value), False, value)
        self.assertIs(is_ray(ENDLESS, [-1, 0], ([0, 0], [1, 1])), False)

    def test_returned_papers_with_one_number_otherwise(self):
        chance = random.Random(5)
        for _ in range(80):
            program, aim = random_program(chance)
            numbers = bar(program)
            if numbers is not None:
                at = chance.randrange(len(numbers))
                changed = numbers[:at] + [numbers[at] - Ratio(1, 3)] + numbers[at + 1:]
                self.assertIs(is_bar(program, changed), bars(program, changed))
                self.assertIs(is_bar(program, numbers + [0]), False)
                self.assertIs(is_bar(program, numbers[:-1]), False)
            elif outcome(program, aim) == "best":
                values, cap = best(program, aim)
                at = chance.randrange(len(values))
                changed = values[:at] + [values[at] + Ratio(1, 3)] + values[at + 1:]
                right = solves(program, changed) and times(aim, changed) == bounds(program, cap)
                self.assertIs(is_best_paper(program, aim, (changed, cap)), right)
            else:
                values, direction = ray(program, aim)
                at = chance.randrange(len(values))
                changed = direction[:at] + [direction[at] + 1] + direction[at + 1:]
                self.assertIs(is_ray(program, aim, (values, changed)), rises(program, aim, changed))

    def test_wrong_aims(self):
        for value in [*ODD_VALUES, [1], [1, 2, 3], [1, True], [None, 1], 3, {0: 1, 1: 1}]:
            for function in (outcome, highest, lowest, best, ray):
                self.assertEqual(raised(function, TWO, value), ("InvalidAim", value))
            for judge in (is_best_paper, is_ray):
                self.assertEqual(raised(judge, TWO, value, None), ("InvalidAim", value))
        self.assertEqual(raised(highest, NOTHING, []), ("InvalidAim", []))


class Needless(unittest.TestCase):
    def test_needless_rows(self):
        self.assertEqual(needless(TWO), [])
        twice = Program(1, [([1], 3), ([1], 3), ([2], 9), ([-1], 5), ([0], 0)])
        self.assertEqual(needless(twice), [0, 1, 2, 3, 4])
        self.assertEqual(lean(twice), Program(1, [([1], 3)]))
        put_together = Program(2, [([1, 0], 1), ([0, 1], 1), ([2, 3], 5), ([2, 3], 4)])
        self.assertEqual(needless(put_together), [2])
        self.assertEqual(lean(put_together), put_together.without(2))

    def test_programs_that_nothing_solves(self):
        self.assertEqual(needless(NOTHING), [])
        self.assertEqual(lean(NOTHING), NOTHING)
        twice = NOTHING + ([1], 0)
        self.assertEqual(needless(twice), [0, 2])
        self.assertEqual(lean(twice), NOTHING)
        self.assertEqual(lean(twice + ([0], -1)), NOTHING)
        self.assertEqual(needless(twice + ([0], -1)), [0, 1, 2, 3])

    def test_lean_goes_from_the_last_to_the_first(self):
        self.assertEqual(lean(Program(1, [([1], 2), ([2], 4)])), Program(1, [([1], 2)]))
        self.assertEqual(lean(Program(1)), Program(1))

    def test_lean_programs_are_alike_and_have_nothing_needless(self):
        chance = random.Random(7)
        for _ in range(60):
            program, _ = random_program(chance, 3, 6, 2)
            less = lean(program)
            self.assertIs(are_alike(program, less), True)
            self.assertEqual(needless(less), [])
            self.assertTrue(all(row in program.rows() for row in less.rows()))

    def test_parting(self):
        chance, found = random.Random(8), [0, 0]
        for _ in range(120):
            one, _ = random_program(chance, 1, 3, 2)
            other, _ = random_program(chance, 1, 3, 2)
            values = parting(one, other)
            self.assertIs(are_alike(one, other), values is None)
            self.assertIs(are_alike(other, one), values is None)
            found[values is None] += 1
            if values is not None:
                self.assertNotEqual(solves(one, values), solves(other, values))
                self.assertTrue(is_same(values, parting(one, other)))
        self.assertTrue(min(found) > 10, found)

    def test_parting_with_more_unknowns(self):
        chance = random.Random(9)
        for _ in range(40):
            one, _ = random_program(chance, 4, 6, 3)
            for at in range(len(one)):
                values = parting(one, one.without(at))
                self.assertEqual(values is None, at in needless(one))
                if values is not None:
                    self.assertFalse(solves(one, values))
                    self.assertTrue(solves(one.without(at), values))

    def test_programs_that_nothing_solves_are_alike(self):
        self.assertIs(are_alike(NOTHING, Program(1, [([0], -1)])), True)
        self.assertIs(are_alike(NOTHING, Program(1)), False)
        self.assertEqual(parting(one=Program(1), other=Program(1, [([-1], -3)]))[0].is_below(3), True)

    def test_other_unknowns(self):
        for function in (are_alike, parting):
            self.assertEqual(raised(function, Program(1), Program(3)), ("OtherUnknowns", 1, 3))
            self.assertEqual(raised(function, NOTHING, TWO), ("OtherUnknowns", 1, 2))


if __name__ == "__main__":
    unittest.main()
