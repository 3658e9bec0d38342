"""What the plainest values are: integers, counts, letters, words, heard letters."""

LETTERS = "abcdefghijklmnopqrstuvwxyz"


def is_integer(value):
    return isinstance(value, int) and not isinstance(value, bool)


def is_count(value):
    return is_integer(value) and value >= 0


def is_letter(value):
    return isinstance(value, str) and len(value) == 1 and value in LETTERS


def is_word(value):
    return isinstance(value, str) and all([sign in LETTERS for sign in value])


def is_heard(value):
    return is_word(value) and all([one < two for one, two in zip(value, value[1:])])


def is_list(value):
    """Whether it is accepted where a list is told: tuples are, too."""
    return isinstance(value, (list, tuple))


def is_place_below(value, places):
    """Whether it is the number of one of so many places, states or positions."""
    return is_count(value) and value < places


def is_rising(value, places):
    """Whether any value is a sorted tuple, not empty, of unlike numbers of so many places."""
    if not isinstance(value, tuple) or len(value) == 0:
        return False
    if not all([is_place_below(place, places) for place in value]):
        return False
    return all([one < two for one, two in zip(value, value[1:])])
