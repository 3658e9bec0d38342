"""Runs: the ways that a machine may go, step by step, and what is heard of them."""

from heardquotes.basics import is_integer, is_list
from heardquotes.checks import check_heard, check_many, check_place, check_word
from heardquotes.errors import InvalidRun, TooMany
from heardquotes.hearing import is_said
from heardquotes.machines import is_step

MOST_RUNS = 500
MOST_HEARD = 400


def is_run(machine, value):
    if not isinstance(value, tuple) or len(value) != 2:
        return False
    place, steps = value
    if not is_integer(place) or place not in machine.begins() or not is_list(steps):
        return False
    own = machine.steps()
    if not all([is_step(step, machine.places) and step in own for step in steps]):
        return False
    starts = [step[0] for step in steps]
    stops = [place] + [step[2] for step in steps]
    return starts == stops[:-1]


def check_run(machine, run):
    if not is_run(machine, run):
        raise InvalidRun(run)


def stop_of(machine, run):
    check_run(machine, run)
    return stop_at(run)


def stop_at(run):
    place, steps = run
    return steps[-1][2] if steps else place


def heard_of(machine, heard, run):
    check_heard(machine, heard)
    check_run(machine, run)
    return "".join([step[1] for step in run[1] if is_said(step[1], heard)])


def runs(machine, many):
    check_many(many)
    steps = machine.steps()
    level = [(place, []) for place in machine.begins()]
    found = list(level)
    longest = 0
    while level and longest < many:
        level = [(run[0], run[1] + [step]) for run in level for step in steps if step[0] == stop_at(run)]
        found.extend(level)
        if len(found) > MOST_RUNS:
            raise TooMany("runs", MOST_RUNS)
        longest += 1
    return sorted(found)


def run_for(machine, heard, word, place):
    check_heard(machine, heard)
    check_word(word)
    check_place(machine, place)
    if len(word) > MOST_HEARD:
        raise TooMany("letters", MOST_HEARD)
    came = came_by(machine, heard, word)
    spot = (len(word), place)
    if spot not in came:
        return None
    steps = []
    while came[spot] is not None:
        step = came[spot]
        steps.append(step)
        spot = (spot[0] - 1 if is_said(step[1], heard) else spot[0], step[0])
    return spot[1], steps[::-1]


def came_by(machine, heard, word):
    """From spots (letters of the word that were heard, place) to the steps that first lead there; None at begins."""
    came = {}
    fresh = [((0, place), None) for place in machine.begins()]
    while fresh:
        waiting = []
        for spot, step in fresh:
            if spot not in came:
                came[spot] = step
                waiting.append(spot)
        fresh = [pair for spot in waiting for pair in spots_then(machine, heard, word, spot)]
    return came


def spots_then(machine, heard, word, spot):
    """The tuples (spot, step) of the spots to which one step leads on, as long as just the word is heard."""
    letters, place = spot
    found = []
    for step in machine.steps():
        if step[0] == place and not is_said(step[1], heard):
            found.append(((letters, step[2]), step))
        elif step[0] == place and word[letters:letters + 1] == step[1]:
            found.append(((letters + 1, step[2]), step))
    return found
