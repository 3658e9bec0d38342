"""Late news: what is needed, and with which papers, if heard letters are told some letters late."""

from heardquotes.basics import is_count, is_word
from heardquotes.checks import check_many, check_word
from heardquotes.claims import floor
from heardquotes.errors import InvalidLate, InvalidPlan, InvalidWeights, InvalidWord, ManyStates
from heardquotes.fairness import positive
from heardquotes.markets import check_claim
from heardquotes.news import News, heard_words, key_of, known_part
from heardquotes.quotes import gain_of, is_position
from heardquotes.ratios import Ratio, are_parts_of_one, as_ratio, check_number, products


def check_late(late):
    if not is_count(late):
        raise InvalidLate(late)


def check_states(market):
    if market.board.states > 1:
        raise ManyStates(market.board.states)


def asked_news(market, claim, many, late):
    """The news of a question, of which all that it hangs on is right, but perhaps a number that is ahead of these."""
    check_many(many)
    check_late(late)
    check_claim(market, claim)
    check_states(market)
    return News(market, many, late)


def known(word, late):
    check_word(word)
    check_late(late)
    return known_part(word, late)


def late_need(market, claim, many, late):
    return asked_news(market, claim, many, late).best(claim)[0]


def late_plan(market, claim, number, many, late):
    check_number(number)
    least, _, plan = asked_news(market, claim, many, late).best(claim)
    return plan if least.is_at_most(number) else None


def is_late_plan(market, claim, number, many, late, value):
    check_number(number)
    news = asked_news(market, claim, many, late)
    return is_plan(market, claim, number, late, news, value)


def is_plan(market, claim, number, late, news, value):
    if not isinstance(value, dict) or not all([is_key(key) for key in value]):
        return False
    if sorted(value) != news.keys_of_positions():
        return False
    if not all([is_position(market.board, 0, position) for position in value.values()]):
        return False
    stands = news.stands()
    ends = [(stands[word][0], coins_along(market, claim, number, late, value, word)[-1]) for word in stands]
    return all([floor(claim, chart).is_at_most(coins) for chart, coins in ends])


def is_key(value):
    return isinstance(value, tuple) and len(value) == 2 and is_word(value[0]) and is_count(value[1])


def coins_along(market, claim, number, late, plan, word):
    """The coins behind no letters of the word, and behind each further one."""
    found = [as_ratio(number)]
    for at, letter in enumerate(word):
        position = plan[key_of(word[:at + 1], late)]
        gains = [gain_of(quote, pieces, letter) for quote, pieces in zip(market.board.quotes(0), position)]
        found.append(Ratio.total(gains) + found[-1] - claim.toll(letter))
    return found


def late_weights(market, claim, many, late):
    return positive(asked_news(market, claim, many, late).best(claim)[1])


def is_late_weights(market, many, late, value):
    check_many(many)
    check_late(late)
    check_states(market)
    return are_weights(News(market, many, late), value)


def are_weights(news, value):
    if not isinstance(value, dict) or not all([is_word(word) and word in news.stands() for word in value]):
        return False
    return are_parts_of_one(list(value.values())) and news.are_fair(value)


def late_worth(market, claim, many, late, value):
    news = asked_news(market, claim, many, late)
    if not are_weights(news, value):
        raise InvalidWeights(value)
    return worth_of(news, claim, value)


def worth_of(news, claim, weights):
    return products(news.worths(claim), news.amounts(weights))


def late_played(market, claim, number, many, late, plan, word):
    check_number(number)
    news = asked_news(market, claim, many, late)
    if not is_plan(market, claim, number, late, news, plan):
        raise InvalidPlan(plan)
    if not is_word(word) or word not in news.stands():
        raise InvalidWord(word)
    return coins_along(market, claim, number, late, plan, word)


def first_late(market, claim, number, many):
    check_number(number)
    check_many(many)
    check_claim(market, claim)
    check_states(market)
    # Told later than the longest word is, nothing is known that could be known less.
    latest = max([len(word) for word in heard_words(market, many)])
    if late_need(market, claim, many, latest).is_at_most(number):
        return None
    low, high = 0, latest
    while low < high:
        middle = (low + high) // 2
        if late_need(market, claim, many, middle).is_at_most(number):
            low = middle + 1
        else:
            high = middle
    return high
