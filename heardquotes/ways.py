"""Ways by letters, told by a dict from each thing to a dict from letters, sorted, to the things that come next."""


def words_from(leads, start):
    """The dict from all to which words lead from the start to the least of these words, the least one first."""
    found = {start: ""}
    waiting = [start]
    while waiting:
        fresh = []
        for known in waiting:
            for letter, then in leads[known].items():
                if then not in found:
                    found[then] = found[known] + letter
                    fresh.append(then)
        waiting = fresh
    return found


def led_by(leads, start, word):
    """The list of the start and of all to which the letters of the word lead in turn; None if one of them can't."""
    passed = [start]
    for letter in word:
        then = leads[passed[-1]].get(letter)
        if then is None:
            return None
        passed.append(then)
    return passed
