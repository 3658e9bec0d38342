"""The book of a desk: all of it that changes, at one time."""


class Book:
    """The plans that are kept, the spot, what was done and what was taken back. A book itself never changes.

    What was done is told by tuples of the line and of the spot ahead of it, what was taken back by tuples of the
    line and of the spot behind it.
    """

    def __init__(self, plans, spot, done, undone):
        self._plans = plans
        self._spot = spot
        self._done = done
        self._undone = undone

    @property
    def plans(self):
        """The dict from names to Plans, only for reading."""
        return self._plans

    @property
    def spot(self):
        return self._spot

    @property
    def done(self):
        """The list of what was done, only for reading."""
        return self._done

    @property
    def undone(self):
        """The list of what was taken back, only for reading."""
        return self._undone

    def with_plan(self, name, plan):
        return Book({**self._plans, name: plan}, self._spot, self._done, self._undone)

    def with_deed(self, line, spot):
        """The book behind a deed that leads to this spot."""
        return Book(self._plans, spot, self._done + [(line, self._spot)], [])

    def taken_back(self):
        line, ahead = self._done[-1]
        return Book(self._plans, ahead, self._done[:-1], self._undone + [(line, self._spot)])

    def done_again(self):
        line, behind = self._undone[-1]
        return Book(self._plans, behind, self._done + [(line, self._spot)], self._undone[:-1])
