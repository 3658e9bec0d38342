"""Charts: all places at which a run can be of which just some word is heard."""

from heardquotes.basics import is_rising
from heardquotes.checks import check_heard, check_letter, check_many, check_word
from heardquotes.errors import InvalidChart
from heardquotes.hearing import Hearing
from heardquotes.ways import words_from, words_within

MOST_WORDS = 500


def is_chart(machine, heard, value):
    check_heard(machine, heard)
    return is_rising(value, machine.places) and Hearing(machine, heard).joined(value) == value


def check_chart(machine, heard, chart):
    if not is_chart(machine, heard, chart):
        raise InvalidChart(chart)


def first_chart(machine, heard):
    check_heard(machine, heard)
    return Hearing(machine, heard).first()


def chart_then(machine, heard, chart, letter):
    check_chart(machine, heard, chart)
    check_letter(letter)
    return Hearing(machine, heard).then(chart, letter)


def chart_behind(machine, heard, word):
    check_heard(machine, heard)
    check_word(word)
    hearing = Hearing(machine, heard)
    return hearing.led(hearing.first(), word)


def next_letters(machine, heard, chart):
    check_chart(machine, heard, chart)
    return "".join(list(Hearing(machine, heard).ways(chart)))


def all_charts(machine, heard):
    check_heard(machine, heard)
    hearing = Hearing(machine, heard)
    return sorted(hearing.charts_from(hearing.first()))


def words(machine, heard, many):
    check_heard(machine, heard)
    check_many(many)
    hearing = Hearing(machine, heard)
    first = hearing.first()
    return list(words_within(hearing.charts_from(first), first, many, MOST_WORDS))


def least_word(machine, heard, chart):
    check_chart(machine, heard, chart)
    hearing = Hearing(machine, heard)
    first = hearing.first()
    return words_from(hearing.charts_from(first), first).get(chart)
