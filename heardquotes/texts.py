"""The written forms of machines, claims, boards and markets."""

from heardquotes.boards import Board
from heardquotes.claims import Claim
from heardquotes.errors import InvalidThing
from heardquotes.machines import Machine
from heardquotes.markets import Market

NOTHING = "-"


def written(thing):
    if isinstance(thing, Machine):
        return joined(machine_rows(thing))
    if isinstance(thing, Claim):
        return joined(claim_rows(thing))
    if isinstance(thing, Board):
        return joined(board_rows(thing))
    if isinstance(thing, Market):
        head = ["market", text_of(thing.heard)]
        return joined([head] + machine_rows(thing.machine) + board_rows(thing.board))
    raise InvalidThing(thing)


def joined(rows):
    """The rows of words as lines, each with a line feed."""
    return "".join([" ".join(row) + "\n" for row in rows])


def text_of(part):
    """A number, a letter or letters; - where there is nothing."""
    return NOTHING if part is None or part == "" else str(part)


def row_of(word, parts):
    return [word] + [text_of(part) for part in parts]


def machine_rows(machine):
    return [row_of("machine", [machine.places] + machine.begins())] + [row_of("step", step) for step in machine.steps()]


def claim_rows(claim):
    dues = [row_of("due", pair) for pair in claim.dues().items()]
    return [["claim"]] + dues + [row_of("toll", pair) for pair in claim.tolls().items()]


def board_rows(board):
    rows = [["board"]]
    for state in range(board.states):
        rows.append(["state"])
        rows.extend([quote_row(quote) for quote in board.quotes(state)])
    return rows + [row_of("turn", [state, letter, then]) for (state, letter), then in board.turns().items()]


def quote_row(quote):
    pays, bid, ask = quote
    return row_of("quote", [bid, ask] + [part for pair in pays.items() for part in pair])
