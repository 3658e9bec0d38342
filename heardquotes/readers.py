"""Reads written forms again, and tells the first line that is wrong.

What reads a thing takes the words of all lines, and how many lines are behind it already; it returns a tuple of the
thing, None if it is not whole, and of how many lines were read: the line behind these is wrong, or lacks.
"""

from heardquotes.basics import is_heard, is_letter
from heardquotes.boards import Board
from heardquotes.claims import Claim
from heardquotes.errors import InvalidHeard, InvalidText, TooMany, UnheardLetter
from heardquotes.machines import MOST_LETTERS, MOST_PLACES, MOST_STEPS, Machine, letters_of
from heardquotes.markets import Market
from heardquotes.numerals import number_in, place_in
from heardquotes.quotes import is_quote
from heardquotes.texts import NOTHING


def read(text):
    if not isinstance(text, str):
        raise InvalidText(0)
    lines = text.split("\n")
    thing, many = thing_in([line.split(" ") for line in lines[:-1]])
    if thing is None or many < len(lines) - 1 or lines[-1] != "":
        raise InvalidText(many + 1)
    return thing


def thing_in(rows):
    word = rows[0][0] if rows else ""
    if word == "machine":
        return machine_in(rows, 0)
    if word == "claim":
        return claim_in(rows)
    if word == "board":
        return board_in(rows, 0)
    if word == "market":
        return market_in(rows)
    return None, 0


def is_row(row, word, many):
    """Whether the row has this word ahead, and so many words behind it."""
    return row[0] == word and len(row) == many + 1


def machine_in(rows, at):
    head = head_in(rows[at]) if at < len(rows) else None
    if head is None:
        return None, at
    places, begins = head
    steps = []
    for row in rows[at + 1:]:
        step = step_in(row, places)
        if step is None or not can_follow(steps, step):
            break
        steps.append(step)
    return Machine(places, steps, begins), at + 1 + len(steps)


def head_in(row):
    """The tuple of how many places and of the begins; None if the row is not the first one of a machine."""
    if row[0] != "machine" or len(row) < 3:
        return None
    places = place_in(row[1], MOST_PLACES + 1)
    if places is None:
        return None
    begins = [place_in(text, places) for text in row[2:]]
    if None in begins or not all([one < two for one, two in zip(begins, begins[1:])]):
        return None
    return places, begins


def step_in(row, places):
    if not is_row(row, "step", 3):
        return None
    start, letter, stop = place_in(row[1], places), row[2], place_in(row[3], places)
    if start is None or stop is None or letter != NOTHING and not is_letter(letter):
        return None
    return start, "" if letter == NOTHING else letter, stop


def can_follow(steps, step):
    if len(steps) == MOST_STEPS or steps and step <= steps[-1]:
        return False
    return len(letters_of(steps + [step])) <= MOST_LETTERS


def claim_in(rows):
    if rows[0] != ["claim"]:
        return None, 0
    dues = {}
    for row in rows[1:]:
        due = due_in(row)
        if due is None or dues and due[0] <= max(dues):
            break
        dues[due[0]] = due[1]
    tolls = {}
    for row in rows[1 + len(dues):]:
        toll = toll_in(row)
        if toll is None or tolls and toll[0] <= max(tolls):
            break
        tolls[toll[0]] = toll[1]
    return Claim(dues, tolls), 1 + len(dues) + len(tolls)


def due_in(row):
    if not is_row(row, "due", 2):
        return None
    place, number = place_in(row[1], MOST_PLACES), number_in(row[2])
    return None if place is None or number is None or number.sign <= 0 else (place, number)


def toll_in(row):
    if not is_row(row, "toll", 2) or not is_letter(row[1]):
        return None
    number = number_in(row[2])
    return None if number is None or number.sign == 0 else (row[1], number)


def board_in(rows, at):
    if at == len(rows) or rows[at] != ["board"]:
        return None, at
    states, many = states_in(rows, at + 1)
    turns = turns_in(rows, many, len(states))
    return Board(states, turns) if states else None, many + len(turns)


def states_in(rows, at):
    """The tuple of the quotes of all states, and of how many lines were read."""
    states = []
    many = at
    for row in rows[at:]:
        quote = quote_in(row)
        if row == ["state"] and len(states) < Board.MOST_STATES:
            states = states + [[]]
        elif quote is not None and states and len(states[-1]) < Board.MOST_QUOTES:
            states = states[:-1] + [states[-1] + [quote]]
        else:
            break
        many += 1
    return states, many


def quote_in(row):
    if row[0] != "quote" or len(row) < 5 or len(row) % 2 == 0:
        return None
    letters, numbers = row[3::2], [number_in(text) for text in row[4::2]]
    prices = [None if text == NOTHING else number_in(text) for text in row[1:3]]
    if not all([text == NOTHING or price is not None for text, price in zip(row[1:3], prices)]):
        return None
    quote = dict(zip(letters, numbers)), prices[0], prices[1]
    return quote if is_heard("".join(letters)) and is_quote(quote) else None


def turns_in(rows, at, states):
    """The dict of the turns that the lines tell behind so many lines; each is one line."""
    turns = {}
    for row in rows[at:]:
        turn = turn_in(row, states)
        if turn is None or turns and turn[0] <= max(turns):
            break
        turns[turn[0]] = turn[1]
    return turns


def turn_in(row, states):
    if not is_row(row, "turn", 3) or not is_letter(row[2]):
        return None
    state, then = place_in(row[1], states), place_in(row[3], states)
    return None if state is None or then is None or state == then else ((state, row[2]), then)


def market_in(rows):
    heard = heard_in(rows[0])
    if heard is None:
        return None, 0
    machine, ahead = machine_in(rows, 1)
    if machine is None:
        return None, ahead
    board, many = board_in(rows, ahead)
    return None if board is None else market_of(machine, heard, board), many


def heard_in(row):
    if not is_row(row, "market", 1):
        return None
    if row[1] == NOTHING:
        return ""
    return row[1] if is_heard(row[1]) and 0 < len(row[1]) <= MOST_LETTERS else None


def market_of(machine, heard, board):
    """None if they make no Market."""
    try:
        return Market(machine, heard, board)
    except (InvalidHeard, UnheardLetter, TooMany):
        return None
