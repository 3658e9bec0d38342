"""Markets looked at by the words of the document alone, over Fractions, for tests to compare with.

Nothing here asks the package but for the parts of machines, boards and claims. What is judged has to be of the
right kinds already; only its worth and its keys are looked at.
"""

from fractions import Fraction
from itertools import combinations, product

from helper import fraction

from heardquotes.boards import Board
from heardquotes.claims import Claim
from heardquotes.errors import TooMany
from heardquotes.machines import Machine
from heardquotes.markets import Market
from heardquotes.ratios import Ratio
from machinery import random_heard, random_machine, random_number


def random_quote(chance, letters, barring=0.1):
    if chance.random() < barring:
        # Whoever buys it gains at its letter, and loses nowhere.
        return {chance.choice(letters): 1}, None, 0
    pays = {letter: random_number(chance) for letter in letters if chance.random() < 0.8} or {letters[0]: 1}
    low = random_number(chance, -2, 2) if chance.random() < 0.2 else average(pays)
    spread = chance.choice([0, 0, 1, Ratio(1, 2)])
    kind = chance.randrange(4)
    return pays, None if kind == 0 else low, None if kind == 1 else Ratio.total([low, spread])


def average(pays):
    """The price that is fair if letters count the more the later they stand."""
    counts = {letter: "abcdef".index(letter) + 1 for letter in pays}
    return Ratio.total([pays[letter] * Ratio(counts[letter], sum(counts.values())) for letter in pays])


def random_board(chance, letters, most_states=3, most_quotes=3, barring=0.1):
    states = chance.randint(1, most_states)
    rows = [[random_quote(chance, letters, barring) for _ in range(chance.randint(0, most_quotes))] if letters else []
            for _ in range(states)]
    turns = {(state, letter): chance.randrange(states) for state in range(states) for letter in letters
             if chance.random() < 0.4}
    return Board(rows, turns)


def random_market(chance, most_places=4, most_steps=9, most_quotes=3, most_stands=20, barring=0.1):
    while True:
        machine = random_machine(chance, "abc", most_places, most_steps)
        if len(machine.begins()) > 2:
            continue
        heard = machine.letters if chance.random() < 0.7 else random_heard(chance, machine)
        board = random_board(chance, heard, 2, most_quotes, barring)
        try:
            market = Market(machine, heard, board)
        except TooMany:
            continue
        if len(Told(market).leads) <= most_stands:
            return market


def barring_market(chance):
    """A market of two parts; by c, which a quote bars, the one leads to the other, where often a ring owes."""
    steps = {(chance.randrange(2), chance.choice("ab"), chance.randrange(2)) for _ in range(chance.randint(1, 4))}
    steps |= {(2, chance.choice("ab"), chance.randint(2, 3)) for _ in range(2)} | {(3, "a", 2)}
    steps |= {(place, "c", 2) for place in range(2) if chance.random() < 0.8} | {(0, "c", 2)}
    steps |= {(0, "", 1)} if chance.random() < 0.2 else set()
    quotes = [random_quote(chance, "abc") for _ in range(chance.randint(0, 2))]
    after = [random_quote(chance, "abc") for _ in range(chance.randint(0, 1))]
    heard = "".join(sorted({letter for _, letter, _ in steps if letter} | {"a", "b"}))
    machine = Machine(4, sorted(steps | {(3, "b", 3)}), [0])
    return Market(machine, heard, Board([[({"c": 1}, None, 0), *quotes], after], {(0, "c"): 1}))


def random_claim(chance, market, low=-2, high=1):
    begins = market.machine.begins()
    dues = {place: random_number(chance, 0, 1 if place in begins else 4) for place in range(market.machine.places)
            if chance.random() < 0.8}
    tolls = {letter: random_number(chance, low, high) for letter in market.heard if chance.random() < 0.5}
    return Claim(dues, tolls)


class Told:
    """The stands of a market, told by going through all that can be heard."""

    def __init__(self, market):
        self.market = market
        self.steps = market.machine.steps()
        self.first = (self.spread(market.machine.begins()), 0)
        self.leads = {}
        self.words = {self.first: ""}
        waiting = [self.first]
        while waiting:
            stand = waiting.pop(0)
            self.leads[stand] = {}
            for letter in market.heard:
                chart = self.spread([stop for place, said, stop in self.steps
                                     if said == letter and place in stand[0]])
                if chart:
                    then = (chart, market.board.turns().get((stand[1], letter), stand[1]))
                    self.leads[stand][letter] = then
                    if then not in self.words:
                        self.words[then] = self.words[stand] + letter
                        waiting.append(then)

    def spread(self, places):
        found = set(places)
        size = -1
        while size != len(found):
            size = len(found)
            found |= {stop for place, said, stop in self.steps
                      if place in found and (said == "" or said not in self.market.heard)}
        return tuple(sorted(found))

    def can_hold(self, stand, position):
        quotes = self.market.board.quotes(stand[1])
        if len(position) != len(quotes):
            return False
        return all(not (fraction(number) > 0 and ask is None or fraction(number) < 0 and bid is None)
                   for number, (_, bid, ask) in zip(position, quotes))

    def gains(self, stand, position):
        found = {}
        for letter in self.leads[stand]:
            found[letter] = Fraction(0)
            for number, (pays, bid, ask) in zip(position, self.market.board.quotes(stand[1])):
                pieces = fraction(number)
                # With the window what is here called a letter is a tuple (letter, place).
                if letter[0] in pays and pieces > 0:
                    found[letter] += pieces * (fraction(pays[letter[0]]) - fraction(ask))
                if letter[0] in pays and pieces < 0:
                    found[letter] -= pieces * (fraction(bid) - fraction(pays[letter[0]]))
        return found

    def trades(self, stand):
        """For each piece that can be bought or sold what it gains at the next letters."""
        rows = []
        for at, (_, bid, ask) in enumerate(self.market.board.quotes(stand[1])):
            for side, price in ((1, ask), (-1, bid)):
                if price is not None:
                    position = [0] * len(self.market.board.quotes(stand[1]))
                    position[at] = side
                    rows.append(self.gains(stand, position))
        return rows

    def are_fair(self, stand, weights):
        return all(sum(fraction(weight) * row[letter] for letter, weight in weights.items()) <= 0
                   for row in self.trades(stand))

    def corners(self, stand):
        """All corners of the fair weights of the stand, as dicts from its next letters to Fractions."""
        letters = list(self.leads[stand])
        if not letters:
            return []
        edges = [[row[letter] for letter in letters] for row in self.trades(stand)]
        edges += [[Fraction(int(one == other)) for other in letters] for one in letters]
        found = []
        for chosen in combinations(edges, len(letters) - 1):
            numbers = solved([*chosen, [Fraction(1)] * len(letters)], [0] * len(chosen) + [1])
            if numbers is not None and min(numbers) >= 0:
                weights = dict(zip(letters, numbers))
                if self.are_fair(stand, weights) and weights not in found:
                    found.append(weights)
        return found

    def live(self, stand):
        corners = self.corners(stand)
        return "".join(letter for letter in self.leads[stand] if any(weights[letter] > 0 for weights in corners))

    def reach(self, stand, coins):
        return max([sum(weights[letter] * fraction(coins[letter]) for letter in weights)
                    for weights in self.corners(stand)], default=None)

    def floor(self, claim, stand):
        return max(fraction(claim.due(place)) for place in stand[0])

    def keys(self, many):
        found, level = {(self.first, many)}, {self.first}
        for left in range(many - 1, -1, -1):
            level = {then for stand in level for then in self.leads[stand].values()}
            found |= {(stand, left) for stand in level}
        return found

    def needs(self, claim, many):
        """For 0 to many letters the dicts from stands to what is needed."""
        floors = {stand: self.floor(claim, stand) for stand in self.leads}
        corners = {stand: self.corners(stand) for stand in self.leads}
        table = [floors]
        for _ in range(many):
            table.append({stand: max([floors[stand]] + [
                sum(weights[letter] * (table[-1][then] + fraction(claim.toll(letter[0])))
                    for letter, then in self.leads[stand].items()) for weights in corners[stand]])
                for stand in self.leads})
        return table

    def does_lead(self, claim, stand, coins, position, wanted):
        gains = self.gains(stand, position)
        return all(fraction(coins) + gains[letter] - fraction(claim.toll(letter[0])) >= fraction(wanted[then])
                   for letter, then in self.leads[stand].items() if then in wanted)

    def is_folded_plan(self, claim, value):
        if set(value) != set(self.leads):
            return False
        coins = {stand: value[stand][0] for stand in value}
        return all(self.is_entry(claim, stand, value[stand])
                   and self.does_lead(claim, stand, *value[stand], coins) for stand in value)

    def is_entry(self, claim, stand, entry):
        return fraction(entry[0]) >= self.floor(claim, stand) and all(
            self.can_hold(stand, position) for position in entry[1:])

    def is_half_plan(self, claim, value):
        if self.first not in value or not set(value) <= set(self.leads):
            return False
        coins = {stand: value[stand][0] for stand in value}
        for stand, entry in value.items():
            if not self.is_entry(claim, stand, entry):
                return False
            if not self.does_lead(claim, stand, *entry[:2], coins):
                return False
            for letter, gained in self.gains(stand, entry[2]).items():
                if gained < 0 or gained == 0 and self.leads[stand][letter] not in value:
                    return False
        return True

    def is_length_plan(self, claim, number, many, value):
        if set(value) != self.keys(many) or fraction(value[self.first, many][0]) > fraction(number):
            return False
        for (stand, left), entry in value.items():
            if not self.is_entry(claim, stand, entry) or left == 0 and any(fraction(held) for held in entry[1]):
                return False
            ahead = {then: value[then, left - 1][0] for then in self.leads[stand].values()} if left else {}
            if not self.does_lead(claim, stand, *entry, ahead):
                return False
        return True

    def is_flow(self, value, first, leads):
        """Of both kinds of flows; leads tells, for a key, the dict from letters to keys."""
        if any(not set(weights) <= set(leads(key)) for key, (_, weights) in value.items()):
            return False
        coming = {first: Fraction(1)}
        for key, (leaves, weights) in value.items():
            if fraction(leaves) < 0 or any(fraction(weight) <= 0 for weight in weights.values()):
                return False
            for letter, weight in weights.items():
                then = leads(key)[letter]
                coming[then] = coming.get(then, 0) + fraction(weight)
        reached, waiting = set(), [first]
        while waiting:
            key = waiting.pop()
            if key not in reached:
                reached.add(key)
                waiting.extend(leads(key)[letter] for letter in value.get(key, (0, {}))[1])
        return set(value) == reached and all(
            coming[key] == fraction(leaves) + sum(map(fraction, weights.values()))
            for key, (leaves, weights) in value.items())

    def is_folded_flow(self, value):
        if not set(value) <= set(self.leads) or not self.is_flow(value, self.first, lambda stand: self.leads[stand]):
            return False
        return all(self.are_fair(stand, weights) for stand, (_, weights) in value.items())

    def is_length_flow(self, many, value):
        def leads(key):
            return {letter: (then, key[1] - 1) for letter, then in self.leads[key[0]].items()} if key[1] else {}
        if not all(key[0] in self.leads for key in value) or not self.is_flow(value, (self.first, many), leads):
            return False
        return all(self.are_fair(key[0], weights) for key, (_, weights) in value.items())

    def worth(self, claim, flow, stand_of=lambda stand: stand):
        return sum(fraction(leaves) * self.floor(claim, stand_of(key))
                   + sum(fraction(weight) * fraction(claim.toll(letter[0])) for letter, weight in weights.items())
                   for key, (leaves, weights) in flow.items())

    def length_worth(self, claim, flow):
        return self.worth(claim, flow, lambda key: key[0])

    def is_ring(self, value):
        if not value or not set(value) <= set(self.leads):
            return False
        for stand, weights in value.items():
            if not weights or not set(weights) <= set(self.leads[stand]) or not self.are_fair(stand, weights):
                return False
            if any(fraction(weight) <= 0 or self.leads[stand][letter] not in value
                   for letter, weight in weights.items()):
                return False
        for stand, weights in value.items():
            coming = sum(fraction(weight) for other, more in value.items() for letter, weight in more.items()
                         if self.leads[other][letter] == stand)
            if coming != sum(map(fraction, weights.values())):
                return False
            if set(self.reached(value, stand)) != set(value):
                return False
        return True

    def reached(self, letters, start):
        """All to which the letters lead that the dict has for each stand."""
        found, waiting = [], [start]
        while waiting:
            stand = waiting.pop()
            if stand not in found:
                found.append(stand)
                waiting.extend(self.leads[stand][letter] for letter in letters[stand])
        return found

    def tolls(self, claim, ring):
        return sum(fraction(weight) * fraction(claim.toll(letter[0]))
                   for weights in ring.values() for letter, weight in weights.items())

    def passed(self, word, start=None):
        """The stands along a word, None where it cannot be heard."""
        found = [self.first if start is None else start]
        for letter in word:
            if letter not in self.leads[found[-1]]:
                return None
            found.append(self.leads[found[-1]][letter])
        return found

    def all_words(self, longest):
        level, found = [""], [""]
        for _ in range(longest):
            level = [word + letter for word in level for letter in self.leads[self.passed(word)[-1]]]
            found += level
        return found


class ToldWindow(Told):
    """The told stands of a market, told by going through all that can be heard and told; the letters are tuples
    (letter, place)."""

    def __init__(self, market):
        super().__init__(market)
        self.leads = {}
        waiting = [self.first]
        while waiting:
            stand = waiting.pop(0)
            if stand not in self.leads:
                self.leads[stand] = {}
                for place, said, stop in self.steps:
                    if place in stand[0] and said != "" and said in market.heard:
                        state = market.board.turns().get((stand[1], said), stand[1])
                        self.leads[stand][said, stop] = (self.spread([stop]), state)
                waiting.extend(self.leads[stand].values())


def solved(rows, rights):
    """The solution of as many rows as unknowns; None unless there is just one."""
    table = [[Fraction(number) for number in row] + [Fraction(right)] for row, right in zip(rows, rights)]
    size = len(table)
    for at in range(size):
        pivot = next((k for k in range(at, size) if table[k][at]), None)
        if pivot is None:
            return None
        table[at], table[pivot] = table[pivot], table[at]
        table[at] = [number / table[at][at] for number in table[at]]
        for k in range(size):
            if k != at and table[k][at]:
                table[k] = [mine - table[k][at] * own for mine, own in zip(table[k], table[at])]
    return [row[-1] for row in table]


NUMBERS = (int, Ratio)


def is_number(value):
    return isinstance(value, NUMBERS) and not isinstance(value, bool)


def places_in(value, path=()):
    """The paths to all parts of a nested value, keys of dicts among them."""
    yield path
    if isinstance(value, dict):
        for key in value:
            yield from places_in(value[key], (*path, key))
    elif isinstance(value, (list, tuple)):
        for at, part in enumerate(value):
            yield from places_in(part, (*path, at))


def part_at(value, path):
    for key in path:
        value = value[key]
    return value


def replaced(value, path, fresh):
    """A copy of the value with another part at the path."""
    if not path:
        return fresh
    if isinstance(value, dict):
        return {key: replaced(part, path[1:], fresh) if key == path[0] else part for key, part in value.items()}
    parts = [replaced(part, path[1:], fresh) if at == path[0] else part for at, part in enumerate(value)]
    return value.__class__(parts)


def spoiled(chance, value, keys=()):
    """A copy that is changed by one thing and has the same kinds: a number, a key less, or one more of these keys."""
    while True:
        path = chance.choice(list(places_in(value)))
        part = part_at(value, path)
        if is_number(part):
            change = chance.choice([1, -1, Ratio(1, 7), Ratio(-1, 7), Ratio(1, 1000), Ratio(-1, 1000)])
            fresh = chance.choice([Ratio.total([part, change]), Ratio(0), Ratio.total([0, part]) * -1])
            return replaced(value, path, fresh)
        if isinstance(part, dict) and part:
            fresh = dict(part)
            key = chance.choice(list(part))
            if chance.random() < 0.5:
                del fresh[key]
                return replaced(value, path, fresh)
            more = [other for other in keys if other.__class__ is key.__class__ and other not in fresh]
            if more:
                fresh[chance.choice(more)] = part[key]
                return replaced(value, path, fresh)
        if isinstance(part, list) and path:
            return replaced(value, path, part + [0] if chance.random() < 0.5 or not part else part[:-1])


ODD_PARTS = (None, True, False, "", "a", b"a", [None], (None,), {None: None}, {True: 1}, [True], object())


def made_odd(chance, value):
    """A copy with one part, or one key, of a kind that is right nowhere; a tuple made a list is one, too."""
    while True:
        path = chance.choice(list(places_in(value)))
        part = part_at(value, path)
        if isinstance(part, tuple) and chance.random() < 0.4:
            return replaced(value, path, list(part))
        if isinstance(part, dict) and part and chance.random() < 0.5:
            key = chance.choice(list(part))
            fresh = dict(part)
            worth = fresh.pop(key)
            fresh[chance.choice([*odd_keys(key)])] = worth
            return replaced(value, path, fresh)
        return replaced(value, path, chance.choice(ODD_PARTS))


def odd_keys(key):
    """Keys that are never right; False and True stand for 0 and 1, and are found as these."""
    yield from (None, True, 0, "A", "", b"a", (), (key,), (None, 0))
    if isinstance(key, tuple):
        last = key[-1] == 1 if key[-1] in (0, 1) else -1
        yield from ((*key, 0), key[:1], (*key[:-1], last))
        if isinstance(key[0], tuple) and isinstance(key[0][0], int) and key[0][0] in (0, 1):
            yield ((bool(key[0][0]), *key[0][1:]), *key[1:])



def owing_stands(told, claim):
    """The stands of all rings that owe, by going through all ways to choose a corner of the fair weights at each."""
    found = set()
    stands = [stand for stand in told.leads if told.corners(stand)]
    for chosen in product(*[told.corners(stand) for stand in stands]):
        policy = {stand: {} for stand in told.leads}
        for stand, weights in zip(stands, chosen):
            policy[stand] = {letter: part for letter, part in weights.items() if part > 0}
        for stand in stands:
            around = told.reached(policy, stand)
            comes_back = all(policy[other] and stand in told.reached(policy, other) for other in around)
            if comes_back and owes(told, claim, policy, around):
                found |= set(around)
    return found


def owes(told, claim, policy, around):
    """Whether the policy's way round these stands, each of which leads to each other one, has tolls above 0."""
    rows = [[sum(part for letter, part in policy[one].items() if told.leads[one][letter] == other) - int(one == other)
             for one in around] for other in around[1:]]
    amounts = solved([*rows, [1] * len(around)], [0] * len(rows) + [1])
    return sum(amount * part * fraction(claim.toll(letter[0])) for amount, stand in zip(amounts, around)
               for letter, part in policy[stand].items()) > 0


def kinds_of(told, claim):
    """The kinds of all stands, from all rings that owe."""
    owing = owing_stands(told, claim)
    live = {stand: told.live(stand) for stand in told.leads}
    found = {}
    for stand in told.leads:
        if set(told.reached(live, stand)) & owing:
            found[stand] = "endless"
        else:
            found[stand] = "bounded" if set(told.reached(told.leads, stand)) & owing else "sound"
    return found
