"""Programs of rows over unknowns that are at least 0, and papers that tell what solves them."""

from heardquotes.basics import is_integer, is_list, is_place_below
from heardquotes.errors import InvalidAim, InvalidPosition, InvalidRow, InvalidRows, InvalidUnknowns
from heardquotes.errors import InvalidValues, NoSolution, OtherUnknowns, TooMany
from heardquotes.ratios import are_at_least_zero, are_numbers, as_ratio, as_ratios, check_number, is_number
from heardquotes.ratios import products
from heardquotes.simplex import solve


class Program:
    """So many unknowns, and rows (weights, bound): the sum of weights times values is at most the bound."""

    MOST_UNKNOWNS = 16
    MOST_ROWS = 24

    def __init__(self, unknowns, rows=()):
        if not is_integer(unknowns) or unknowns < 1 or unknowns > Program.MOST_UNKNOWNS:
            raise InvalidUnknowns(unknowns)
        check_rows(rows, unknowns)
        if len(rows) > Program.MOST_ROWS:
            raise TooMany("rows", Program.MOST_ROWS)
        self._unknowns = unknowns
        self._rows = [(tuple(as_ratios(weights)), as_ratio(bound)) for weights, bound in rows]

    @property
    def unknowns(self):
        return self._unknowns

    def rows(self):
        return [(list(weights), bound) for weights, bound in self._rows]

    def __len__(self):
        return len(self._rows)

    def __getitem__(self, at):
        self._check_position(at)
        weights, bound = self._rows[at]
        return list(weights), bound

    def __iter__(self):
        raise TypeError("a program is not iterated over")

    def __add__(self, other):
        if not is_row(other, self._unknowns):
            raise InvalidRow(other)
        return Program(self._unknowns, self.rows() + [other])

    def without(self, position):
        self._check_position(position)
        rows = self.rows()
        return Program(self._unknowns, rows[:position] + rows[position + 1:])

    def with_bound(self, position, number):
        self._check_position(position)
        check_number(number)
        rows = self.rows()
        weights, _ = rows[position]
        return Program(self._unknowns, rows[:position] + [(weights, number)] + rows[position + 1:])

    def sums(self, values):
        if not are_numbers(values, self._unknowns):
            raise InvalidValues(values)
        return [products(weights, values) for weights, bound in self._rows]

    def __eq__(self, other):
        return isinstance(other, Program) and self._unknowns == other._unknowns and self._rows == other._rows

    def __repr__(self):
        return f"Program({self._unknowns}, {self.rows()!r})"

    def _check_position(self, position):
        if not is_place_below(position, len(self._rows)):
            raise InvalidPosition(position)


def is_row(value, unknowns):
    """Whether any value is a row of so many unknowns."""
    if not isinstance(value, tuple) or len(value) != 2:
        return False
    return are_numbers(value[0], unknowns) and is_number(value[1])


def check_rows(rows, unknowns):
    if not is_list(rows):
        raise InvalidRows(None)
    for position, row in enumerate(rows):
        if not is_row(row, unknowns):
            raise InvalidRows(position)


def check_aim(program, aim):
    if not are_numbers(aim, program.unknowns):
        raise InvalidAim(aim)


def check_unknowns(one, other):
    if one.unknowns != other.unknowns:
        raise OtherUnknowns(one.unknowns, other.unknowns)


def solved(program, aim):
    """What the program comes to for this aim: a tuple of the outcome and of the parts of its paper."""
    return solve(program.unknowns, program.rows(), as_ratios(aim))


def solved_or_error(program, aim):
    check_aim(program, aim)
    outcome_and_parts = solved(program, aim)
    if outcome_and_parts[0] == "bar":
        raise NoSolution()
    return outcome_and_parts


def no_aim(program):
    return [0] * program.unknowns


def solution(program):
    kind, values, _ = solved(program, no_aim(program))
    return None if kind == "bar" else values


def bar(program):
    kind, numbers, _ = solved(program, no_aim(program))
    return numbers if kind == "bar" else None


def is_solution(program, value):
    if not are_at_least_zero(value, program.unknowns):
        return False
    return all([amount.is_at_most(row[1]) for amount, row in zip(program.sums(value), program.rows())])


def is_bar(program, value):
    if not are_at_least_zero(value, len(program)):
        return False
    return all([amount.sign >= 0 for amount in mixed(program, value)]) and cost(program, value).sign < 0


def mixed(program, numbers):
    """For each unknown the sum, over the rows, of the row's number times its weight."""
    rows = program.rows()
    return [products([row[0][at] for row in rows], numbers) for at in range(program.unknowns)]


def cost(program, numbers):
    return products([bound for weights, bound in program.rows()], numbers)


def outcome(program, aim):
    check_aim(program, aim)
    return solved(program, aim)[0]


def highest(program, aim):
    kind, values, _ = solved_or_error(program, aim)
    return products(aim, values) if kind == "best" else None


def lowest(program, aim):
    check_aim(program, aim)
    contrary = highest(program, [-number for number in aim])
    return None if contrary is None else -contrary


def best(program, aim):
    kind, values, cap = solved_or_error(program, aim)
    return (values, cap) if kind == "best" else None


def ray(program, aim):
    kind, values, direction = solved_or_error(program, aim)
    return (values, direction) if kind == "ray" else None


def is_best_paper(program, aim, value):
    check_aim(program, aim)
    if not isinstance(value, tuple) or len(value) != 2 or not is_solution(program, value[0]):
        return False
    return is_cap(program, aim, value[1]) and cost(program, value[1]) == products(aim, value[0])


def is_cap(program, aim, value):
    if not are_at_least_zero(value, len(program)):
        return False
    return all([not amount.is_below(number) for amount, number in zip(mixed(program, value), aim)])


def is_ray(program, aim, value):
    check_aim(program, aim)
    if not isinstance(value, tuple) or len(value) != 2 or not is_solution(program, value[0]):
        return False
    if not are_at_least_zero(value[1], program.unknowns):
        return False
    return all([amount.sign <= 0 for amount in program.sums(value[1])]) and products(aim, value[1]).sign > 0


def needless(program):
    rows = program.rows()
    return [at for at in range(len(rows)) if breach(program.without(at), rows[at]) is None]


def lean(program):
    for at in range(len(program) - 1, -1, -1):
        if breach(program.without(at), program[at]) is None:
            program = program.without(at)
    return program


def breach(program, row):
    """Values that solve the program and do not keep this row; None if there are none."""
    weights, bound = row
    kind, values, direction = solved(program, weights)
    if kind == "bar":
        return None
    worth = products(weights, values)
    if bound.is_below(worth):
        return values
    if kind == "best":
        return None
    times = (bound - worth).over(products(weights, direction)) + 1
    return [value + step * times for value, step in zip(values, direction)]


def first_breach(program, rows):
    for row in rows:
        values = breach(program, row)
        if values is not None:
            return values
    return None


def are_alike(one, other):
    return parting(one, other) is None


def parting(one, other):
    check_unknowns(one, other)
    values = first_breach(one, other.rows())
    return first_breach(other, one.rows()) if values is None else values
