"""Theses, each with a contrary one, and the papers that show which of both is true."""

from heardquotes.decisions import DECISIONS, PAIRS, are_parts
from heardquotes.errors import InvalidThesis, LimitError, MarketError, MissingError, StateError
from heardquotes.judgements import JUDGES
from heardquotes.proofs import PROOFS


def words():
    return list(PAIRS)


def pair_of(value):
    """The two words of the line that has this one, any value; None if none has it."""
    found = [pair for pair in PAIRS if value in pair]
    return found[0] if found else None


def decided(value):
    """Whether any value is a thesis that is true; None if it is no thesis."""
    if not isinstance(value, tuple) or len(value) == 0:
        return None
    pair = pair_of(value[0])
    if pair is None or not are_parts(pair[0], value[1:]):
        return None
    decide = DECISIONS[pair[0]]
    parts = value[1:]
    try:
        return decide(*parts) == (value[0] == pair[0])
    except (MarketError, MissingError, StateError, LimitError):
        return None


def is_thesis(value):
    return decided(value) is not None


def is_true(thesis):
    truth = decided(thesis)
    if truth is None:
        raise InvalidThesis(thesis)
    return truth


def check_thesis(thesis):
    if not is_thesis(thesis):
        raise InvalidThesis(thesis)


def contrary(thesis):
    check_thesis(thesis)
    one, two = pair_of(thesis[0])
    return (two if thesis[0] == one else one,) + copied(thesis[1:])


def copied(part):
    """The same, with new lists and dicts in it, whose keys are sorted."""
    if isinstance(part, list):
        return [copied(some) for some in part]
    if isinstance(part, tuple):
        return tuple([copied(some) for some in part])
    if isinstance(part, dict):
        return {key: copied(part[key]) for key in sorted(part)}
    return part


def paper_of(thesis):
    if not is_true(thesis):
        return None
    prove = PROOFS[thesis[0]]
    parts = thesis[1:]
    return prove(*parts)


def is_paper(thesis, value):
    check_thesis(thesis)
    judge = JUDGES[thesis[0]]
    parts = thesis[1:]
    try:
        return judge(*parts, value)
    except (MarketError, MissingError, StateError, LimitError):
        return False
