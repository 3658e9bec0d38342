"""Solves programs of any size: the best values with a cap, a ray, or a bar.

A table tells some variables, the basic ones, by the other ones, the free ones. All its numbers are
whole and stand above one common scale, so that nothing is brought to lowest terms on the way. Always
the variable of the least number is taken, for otherwise a table could come back for ever.
"""

from heardquotes.ratios import Ratio, shared_bottom

# Below the numbers of all others, so that the helper leaves as soon as it can.
HELPER = -1


class Table:
    """Lines of whole numbers: one for each basic variable, then the goals; what they come to stands last."""

    def __init__(self, lines, basic, free):
        self._lines = [list(line) for line in lines]
        self._basic = list(basic)
        self._free = list(free)
        self._scale = 1

    def swap(self, at, by):
        """Let the basic variable of line at and the free one of column by change places."""
        chosen = self._lines[at]
        pivot = chosen[by]
        lines = [swept(line, chosen, by, self._scale) for line in self._lines]
        lines[at] = list(chosen)
        lines[at][by] = self._scale
        if pivot < 0:
            lines = [[-number for number in line] for line in lines]
        self._lines = lines
        self._scale = abs(pivot)
        self._basic[at], self._free[by] = self._free[by], self._basic[at]

    def rising(self, goal):
        """The column by which this goal grows, of several that of the least variable; None without one."""
        found = [(name, by) for by, name in enumerate(self._free) if self._lines[goal][by] < 0]
        return min(found)[1] if found else None

    def tightest(self, by):
        """The line that first keeps the variable of this column from growing; None if none does."""
        best = None
        for at in range(len(self._basic)):
            if self._lines[at][by] > 0 and (best is None or self.is_tighter(at, best, by)):
                best = at
        return best

    def is_tighter(self, at, best, by):
        mine = self._lines[at][-1] * self._lines[best][by]
        theirs = self._lines[best][-1] * self._lines[at][by]
        return mine < theirs or mine == theirs and self._basic[at] < self._basic[best]

    def climb(self, goal):
        """Bring the goal as high as it gets: None, or the column by which it grows without end."""
        by = self.rising(goal)
        while by is not None:
            at = self.tightest(by)
            if at is None:
                return by
            self.swap(at, by)
            by = self.rising(goal)
        return None

    def begin(self):
        """Bring in the helper, in the last column, where a bound is below 0: no bound is behind this."""
        at = min([(self._lines[line][-1], line) for line in range(len(self._basic))])[1]
        self.swap(at, len(self._free) - 1)

    def drop_helper(self):
        by = self._free.index(HELPER)
        self._lines = [line[:by] + line[by + 1:] for line in self._lines]
        del self._free[by]

    def height(self, goal):
        return Ratio(self._lines[goal][-1], self._scale)

    def basic_numbers(self, unknowns):
        """What the unknowns are if all free variables are 0."""
        heights = {name: self.height(at) for at, name in enumerate(self._basic)}
        return [heights.get(name, Ratio(0)) for name in range(unknowns)]

    def goal_numbers(self, goal, names):
        """By how much the goal falls with each of these variables, 0 for basic ones."""
        falls = {name: Ratio(self._lines[goal][by], self._scale) for by, name in enumerate(self._free)}
        return [falls.get(name, Ratio(0)) for name in names]

    def direction(self, by, unknowns):
        """By how much the unknowns grow with the variable of this column."""
        growth = {name: Ratio(-self._lines[at][by], self._scale) for at, name in enumerate(self._basic)}
        growth[self._free[by]] = Ratio(1)
        return [growth.get(name, Ratio(0)) for name in range(unknowns)]


def swept(line, chosen, by, scale):
    """The line without the variable of this column, which the chosen line tells."""
    pivot, factor = chosen[by], line[by]
    fresh = [(mine * pivot - factor * own) // scale for mine, own in zip(line, chosen)]
    fresh[by] = -factor
    return fresh


def whole(numbers):
    """The tuple of the least scale by which all the Ratios become whole, and of these integers."""
    scale = shared_bottom(numbers)
    return scale, [number.top * (scale // number.bottom) for number in numbers]


def first_table(unknowns, rows, aim):
    """The table with the goals aim and less of the helper, and the scales of the aim and of the rows."""
    scaled = [whole(weights + [bound]) for weights, bound in rows]
    aim_scale, aims = whole(aim)
    lines = [line[:-1] + [-1, line[-1]] for scale, line in scaled]
    lines.append([-number for number in aims] + [0, 0])
    lines.append([0 for _ in aims] + [1, 0])
    basic = list(range(unknowns, unknowns + len(rows)))
    table = Table(lines, basic, list(range(unknowns)) + [HELPER])
    return table, aim_scale, [scale for scale, line in scaled]


def solve(unknowns, rows, aim):
    """One of ("best", values, cap), ("ray", values, direction), ("bar", bar, None).

    rows are tuples of a list of Ratios and a Ratio, aim is a list of Ratios.
    """
    table, aim_scale, scales = first_table(unknowns, rows, aim)
    many = len(rows)
    slacks = list(range(unknowns, unknowns + many))
    if any([bound.sign < 0 for weights, bound in rows]):
        table.begin()
        table.climb(many + 1)
        if table.height(many + 1).sign < 0:
            numbers = table.goal_numbers(many + 1, slacks)
            return "bar", [number * scale for number, scale in zip(numbers, scales)], None
    table.drop_helper()
    by = table.climb(many)
    values = table.basic_numbers(unknowns)
    if by is not None:
        return "ray", values, table.direction(by, unknowns)
    cap = table.goal_numbers(many, slacks)
    return "best", values, [number * Ratio(scale, aim_scale) for number, scale in zip(cap, scales)]
