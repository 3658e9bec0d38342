"""Machines by chance, and slow ways of reckoning that know nothing of charts, for tests to compare with."""

from heardquotes.machines import Machine
from heardquotes.ratios import Ratio


def random_machine(chance, letters="abc", most_places=5, most_steps=10):
    places = chance.randint(1, most_places)
    steps = {(chance.randrange(places), chance.choice(["", *letters]), chance.randrange(places))
             for _ in range(chance.randint(0, most_steps))}
    return Machine(places, sorted(steps), chance.sample(range(places), chance.randint(1, places)))


def random_heard(chance, machine):
    return "".join(letter for letter in machine.letters if chance.random() < 0.7)


def random_number(chance, low=-3, high=3):
    top = chance.randint(low, high)
    return top if chance.random() < 0.6 else Ratio(top, chance.randint(1, 3))


def stops_by_word(machine, heard, longest, begins=None):
    """From words of at most so many letters to the sets of places at which runs stop of which this is heard."""
    found = set()
    waiting = [("", place) for place in (machine.begins() if begins is None else begins)]
    while waiting:
        word, place = waiting.pop()
        if (word, place) in found or len(word) > longest:
            continue
        found.add((word, place))
        for start, letter, stop in machine.steps():
            if start == place:
                said = letter if letter and letter in heard else ""
                waiting.append((word + said, stop))
    table = {}
    for word, place in found:
        table.setdefault(word, set()).add(place)
    return table


def by_length(words):
    return sorted(words, key=lambda word: (len(word), word))
