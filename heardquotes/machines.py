"""Machines: places, steps between them that say a letter or nothing, and places to begin at."""

from heardquotes.basics import is_integer, is_letter, is_list, is_place_below
from heardquotes.errors import InvalidBegins, InvalidLetters, InvalidOrder, InvalidOther, InvalidPlaces
from heardquotes.errors import InvalidStep, InvalidSteps, TooMany

MOST_PLACES = 8
MOST_STEPS = 40
MOST_LETTERS = 6


class Machine:
    """Places numbered from 0, steps (place, letter, place), and begins."""

    def __init__(self, places, steps, begins):
        if not is_integer(places) or places < 1 or places > MOST_PLACES:
            raise InvalidPlaces(places)
        check_steps(steps, places)
        check_begins(begins, places)
        if len(steps) > MOST_STEPS:
            raise TooMany("steps", MOST_STEPS)
        letters = letters_of(steps)
        if len(letters) > MOST_LETTERS:
            raise TooMany("letters", MOST_LETTERS)
        self._places = places
        self._steps = sorted(steps)
        self._begins = sorted(begins)
        self._letters = letters

    @property
    def places(self):
        return self._places

    @property
    def letters(self):
        return self._letters

    def steps(self):
        return list(self._steps)

    def begins(self):
        return list(self._begins)

    def with_step(self, step):
        if not is_step(step, self._places) or step in self._steps:
            raise InvalidStep(step)
        return Machine(self._places, self._steps + [step], self._begins)

    def without_step(self, step):
        if not is_step(step, self._places) or step not in self._steps:
            raise InvalidStep(step)
        return Machine(self._places, [other for other in self._steps if other != step], self._begins)

    def renumbered(self, order):
        if not is_order(order, self._places):
            raise InvalidOrder(order)
        return self._moved({at: place for at, place in enumerate(order)})

    def relettered(self, letters):
        if not is_relettering(letters, self._letters):
            raise InvalidLetters(letters)
        told = {"": "", **letters}
        steps = sorted(set([(start, told[letter], stop) for start, letter, stop in self._steps]))
        return Machine(self._places, steps, self._begins)

    def beside(self, other):
        if not isinstance(other, Machine):
            raise InvalidOther(other)
        places = self._places + other.places
        if places > MOST_PLACES:
            raise TooMany("places", MOST_PLACES)
        shift = self._places
        steps = [(start + shift, letter, stop + shift) for start, letter, stop in other.steps()]
        begins = [place + shift for place in other.begins()]
        return Machine(places, self._steps + steps, self._begins + begins)

    def come_to(self):
        found = dict([(place, True) for place in self._begins])
        waiting = list(self._begins)
        while waiting:
            place = waiting.pop()
            for start, _, stop in self._steps:
                if start == place and stop not in found:
                    found[stop] = True
                    waiting.append(stop)
        return sorted(found)

    def trimmed(self):
        kept = self.come_to()
        return self._moved({place: at for at, place in enumerate(kept)})

    def _moved(self, numbers):
        """The machine of the places that have new numbers.

        Where a place has one, so have all to which its steps lead: they are come to, too.
        """
        steps = [(numbers[start], letter, numbers[stop]) for start, letter, stop in self._steps if start in numbers]
        return Machine(len(numbers), steps, [numbers[place] for place in self._begins])

    def __eq__(self, other):
        if not isinstance(other, Machine) or self._places != other._places:
            return False
        return self._steps == other._steps and self._begins == other._begins

    def __repr__(self):
        return f"Machine({self._places}, {self._steps!r}, {self._begins!r})"


def is_step(value, places):
    """Whether any value is a step of so many places."""
    if not isinstance(value, tuple) or len(value) != 3:
        return False
    start, letter, stop = value
    if not is_place_below(start, places) or not is_place_below(stop, places):
        return False
    return is_letter(letter) or isinstance(letter, str) and letter == ""


def check_steps(steps, places):
    if not is_list(steps):
        raise InvalidSteps(None)
    seen = {}
    for position, step in enumerate(steps):
        if not is_step(step, places) or step in seen:
            raise InvalidSteps(position)
        seen[step] = True


def check_begins(begins, places):
    if not is_list(begins) or len(begins) == 0:
        raise InvalidBegins(None)
    seen = {}
    for position, place in enumerate(begins):
        if not is_place_below(place, places) or place in seen:
            raise InvalidBegins(position)
        seen[place] = True


def letters_of(steps):
    """The sorted string of the letters that steps say."""
    return "".join(sorted(set([step[1] for step in steps])))


def is_order(value, places):
    if not is_list(value) or not all([is_integer(place) for place in value]):
        return False
    return sorted(value) == list(range(places))


def is_relettering(value, letters):
    """Whether any value is a dict from just these letters to letters or the string without any."""
    if not isinstance(value, dict) or not all([is_letter(letter) for letter in value]):
        return False
    if "".join(sorted(value)) != letters:
        return False
    return all([is_letter(told) or isinstance(told, str) and told == "" for told in value.values()])
