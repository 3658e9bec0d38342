"""Ways, told by a dict from each thing to a dict from its ways, sorted, to the things that come next.

A way is a letter; or, with the window, a tuple of a letter and the place that is told with it.
"""

from heardquotes.basics import is_count, is_letter
from heardquotes.errors import TooMany


def said(way):
    """The letter of a way; it is the first part of both kinds."""
    return way[0]


def is_way(value):
    """Whether any value is a letter, or a tuple of a letter and a place."""
    if not isinstance(value, tuple):
        return is_letter(value)
    return len(value) == 2 and is_letter(value[0]) and is_count(value[1])


def explored(start, ways_of, most=None, what=""):
    """The dict from the start, and all to which ways lead from it, the nearest ones first, to the ways of each.

    ways_of tells the ways of one of them; TooMany of what it says if there are more than most.
    """
    found = {}
    waiting = [start]
    while waiting:
        fresh = []
        for known in waiting:
            if known not in found:
                found[known] = ways_of(known)
                fresh.extend(list(found[known].values()))
            if most is not None and len(found) > most:
                raise TooMany(what, most)
        waiting = fresh
    return found


def all_from(leads, start):
    """The list of the start and of all to which ways lead from it, the nearest ones first."""
    return list(explored(start, lambda known: leads[known]))


def words_from(leads, start):
    """The dict from all to which words lead from the start to the least of these words, the least one first."""
    found = {start: ""}
    for known in all_from(leads, start):
        for letter, then in leads[known].items():
            if then not in found:
                found[then] = found[known] + letter
    return found


def words_within(leads, start, many, most):
    """The dict from the words of at most so many letters that can be heard, the least one first, to where they lead.

    TooMany if there are more than most.
    """
    found = {"": start}
    level = {"": start}
    letters = 0
    while level and letters < many:
        level = {word + letter: then for word, known in level.items() for letter, then in leads[known].items()}
        found = {**found, **level}
        if len(found) > most:
            raise TooMany("words", most)
        letters += 1
    return found


def led_by(leads, start, word):
    """The list of the start and of all to which the letters of the word lead in turn; None if one of them can't."""
    passed = [start]
    for letter in word:
        then = leads[passed[-1]].get(letter)
        if then is None:
            return None
        passed.append(then)
    return passed
