"""Claims: what is due where a run stops, and the tolls of heard letters."""

from heardquotes.basics import is_letter, is_place_below, is_rising, is_word
from heardquotes.charts import check_chart
from heardquotes.checks import check_fit, check_letter, check_word
from heardquotes.errors import InvalidChart, InvalidDues, InvalidNumber, InvalidOther, InvalidPlace, InvalidTolls
from heardquotes.hearing import Hearing
from heardquotes.machines import MOST_PLACES
from heardquotes.outlooks import Outlook
from heardquotes.ratios import Ratio, as_ratio, greatest, is_at_least_zero, is_number


class Claim:
    """Dues of places, and tolls of letters; it keeps those that are not 0."""

    def __init__(self, dues, tolls=None):
        if not are_dues(dues):
            raise InvalidDues(dues)
        if tolls is not None and not are_tolls(tolls):
            raise InvalidTolls(tolls)
        self._dues = without_zeros(dues)
        self._tolls = without_zeros({} if tolls is None else tolls)

    def dues(self):
        return {place: self._dues[place] for place in self._dues}

    def tolls(self):
        return {letter: self._tolls[letter] for letter in self._tolls}

    def due(self, place):
        if not is_place_below(place, MOST_PLACES):
            raise InvalidPlace(place)
        return self._dues.get(place, Ratio(0))

    def toll(self, letter):
        check_letter(letter)
        return self._tolls.get(letter, Ratio(0))

    def tolls_of(self, word):
        check_word(word)
        return Ratio.total([self._tolls.get(letter, Ratio(0)) for letter in word])

    def __add__(self, other):
        if not isinstance(other, Claim):
            raise InvalidOther(other)
        return Claim(added(self._dues, other.dues()), added(self._tolls, other.tolls()))

    def __mul__(self, other):
        if not is_at_least_zero(other):
            raise InvalidNumber(other)
        return Claim(multiplied(self._dues, other), multiplied(self._tolls, other))

    def __eq__(self, other):
        return isinstance(other, Claim) and self._dues == other._dues and self._tolls == other._tolls

    def __repr__(self):
        return f"Claim({self._dues!r}, {self._tolls!r})"


def are_dues(value):
    if not isinstance(value, dict) or not all([is_place_below(place, MOST_PLACES) for place in value]):
        return False
    return all([is_at_least_zero(due) for due in value.values()])


def are_tolls(value):
    if not isinstance(value, dict) or not all([is_letter(letter) for letter in value]):
        return False
    return all([is_number(toll) for toll in value.values()])


def without_zeros(table):
    """The table with sorted keys and Ratios, without those that are 0."""
    ratios = {key: as_ratio(table[key]) for key in sorted(table)}
    return {key: ratios[key] for key in ratios if ratios[key].sign != 0}


def added(one, other):
    keys = sorted(set(list(one) + list(other)))
    return {key: one.get(key, Ratio(0)) + other.get(key, Ratio(0)) for key in keys}


def multiplied(table, number):
    return {key: table[key] * number for key in table}


def floor(claim, chart):
    if not is_rising(chart, MOST_PLACES):
        raise InvalidChart(chart)
    return greatest([claim.due(place) for place in chart])


def check_outlook(machine, heard, claim, chart):
    check_chart(machine, heard, chart)
    check_fit(machine, heard, claim)


def greatest_floor(machine, heard, claim, chart):
    floors = ceilings(machine, heard, claim, chart)
    return None if floors is None else floors[chart]


def ceilings(machine, heard, claim, chart):
    check_outlook(machine, heard, claim, chart)
    return Outlook(machine, heard, claim, chart).greatest_floors()


def is_ceilings(machine, heard, claim, chart, value):
    check_outlook(machine, heard, claim, chart)
    if not isinstance(value, dict):
        return False
    hearing = Hearing(machine, heard)
    for key in value:
        if not is_rising(key, machine.places) or hearing.joined(key) != key or not is_number(value[key]):
            return False
    return chart in value and all([is_high_enough(hearing, claim, key, value) for key in value])


def is_high_enough(hearing, claim, chart, heights):
    """Whether a chart's height is at least its floor, and that behind each next letter with its toll."""
    if as_ratio(heights[chart]).is_below(floor(claim, chart)):
        return False
    ways = hearing.ways(chart)
    if not all([then in heights for then in ways.values()]):
        return False
    return all([(claim.toll(letter) + heights[then]).is_at_most(heights[chart]) for letter, then in ways.items()])


def is_spent(machine, heard, claim, chart):
    return greatest_floor(machine, heard, claim, chart) == floor(claim, chart)


def rise(machine, heard, claim, chart):
    coming = greatest_floor(machine, heard, claim, chart)
    if coming is None or coming == floor(claim, chart):
        return None
    return Outlook(machine, heard, claim, chart).rise()


def toll_round(machine, heard, claim, chart):
    check_outlook(machine, heard, claim, chart)
    return Outlook(machine, heard, claim, chart).toll_round()


def is_toll_round(machine, heard, claim, chart, value):
    check_outlook(machine, heard, claim, chart)
    if not isinstance(value, tuple) or len(value) != 2 or not is_word(value[0]) or not is_word(value[1]):
        return False
    ahead, ring = value
    hearing = Hearing(machine, heard)
    begin = hearing.led(chart, ahead)
    if begin is None or hearing.led(begin, ring) != begin:
        return False
    return claim.tolls_of(ring).sign > 0
