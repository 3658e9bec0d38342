"""Ways, told by a dict from each thing to a dict from its ways, sorted, to the things that come next.

A way is a letter; or, with the window, a tuple of a letter and the place that is told with it.
"""

from heardquotes.basics import is_count, is_letter


def said(way):
    """The letter of a way; it is the first part of both kinds."""
    return way[0]


def is_way(value):
    """Whether any value is a letter, or a tuple of a letter and a place."""
    if not isinstance(value, tuple):
        return is_letter(value)
    return len(value) == 2 and is_letter(value[0]) and is_count(value[1])


def all_from(leads, start):
    """The list of the start and of all to which ways lead from it, the nearest ones first."""
    found = {start: True}
    waiting = [start]
    while waiting:
        fresh = []
        for known in waiting:
            for then in leads[known].values():
                if then not in found:
                    found[then] = True
                    fresh.append(then)
        waiting = fresh
    return list(found)


def words_from(leads, start):
    """The dict from all to which words lead from the start to the least of these words, the least one first."""
    found = {start: ""}
    waiting = [start]
    while waiting:
        fresh = []
        for known in waiting:
            for letter, then in leads[known].items():
                if then not in found:
                    found[then] = found[known] + letter
                    fresh.append(then)
        waiting = fresh
    return found


def led_by(leads, start, word):
    """The list of the start and of all to which the letters of the word lead in turn; None if one of them can't."""
    passed = [start]
    for letter in word:
        then = leads[passed[-1]].get(letter)
        if then is None:
            return None
        passed.append(then)
    return passed
