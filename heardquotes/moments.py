"""One moment at a stand: fair weights or sure gains, live letters, and what coins behind the letters need."""

from heardquotes.basics import is_letter
from heardquotes.checks import check_letter
from heardquotes.errors import InvalidCoins
from heardquotes.fairness import moment_at
from heardquotes.markets import check_stand
from heardquotes.quotes import is_position
from heardquotes.ratios import Ratio, are_parts_of_one, as_ratio, check_number, is_number


def fair_weights(market, stand):
    check_stand(market, stand)
    return moment_at(market, stand).weigh(no_coins(market, stand))[1]


def no_coins(market, stand):
    return {letter: Ratio(0) for letter in market.leads()[stand]}


def has_next_letters(market, stand, value):
    """Whether any value is a dict of just the next letters of the stand."""
    if not isinstance(value, dict) or not all([is_letter(letter) for letter in value]):
        return False
    return sorted(value) == list(market.leads()[stand])


def is_fair(market, stand, value):
    check_stand(market, stand)
    if not has_next_letters(market, stand, value):
        return False
    return are_parts_of_one(list(value.values())) and moment_at(market, stand).are_fair(value)


def sure_gain(market, stand):
    check_stand(market, stand)
    average, _, position = moment_at(market, stand).weigh(no_coins(market, stand))
    return position if average is None else None


def is_sure(market, stand, value):
    check_stand(market, stand)
    if not is_position(market.board, stand[1], value):
        return False
    return all([gained.sign > 0 for gained in moment_at(market, stand).gains(value).values()])


def live_letters(market, stand):
    check_stand(market, stand)
    return "".join(moment_at(market, stand).live())


def weights_with(market, stand, letter):
    check_stand(market, stand)
    check_letter(letter)
    if letter not in market.leads()[stand]:
        return None
    weights = moment_at(market, stand).weights_with(letter)
    return None if weights is None or weights[letter].sign == 0 else weights


def free_cover(market, stand):
    check_stand(market, stand)
    return moment_at(market, stand).free_cover()


def is_free_cover(market, stand, value):
    check_stand(market, stand)
    if not is_position(market.board, stand[1], value):
        return False
    moment = moment_at(market, stand)
    gains, live = moment.gains(value), moment.live()
    return all([gains[letter].sign > 0 or gains[letter].sign == 0 and letter in live for letter in gains])


def check_coins(market, stand, coins):
    if not has_next_letters(market, stand, coins) or not all([is_number(number) for number in coins.values()]):
        raise InvalidCoins(coins)


def as_coins(coins):
    return {letter: as_ratio(coins[letter]) for letter in sorted(coins)}


def greatest_average(market, stand, coins):
    """The greatest average of the coins, Ratios, by fair weights of the stand; None if there are none."""
    return moment_at(market, stand).weigh(coins)[0]


def reach(market, stand, coins):
    check_stand(market, stand)
    check_coins(market, stand, coins)
    return greatest_average(market, stand, as_coins(coins))


def reaching(market, stand, coins):
    check_stand(market, stand)
    check_coins(market, stand, coins)
    return moment_at(market, stand).leading(Ratio(0), as_coins(coins))


def does_reach(market, stand, number, coins, value):
    check_stand(market, stand)
    check_number(number)
    check_coins(market, stand, coins)
    if not is_position(market.board, stand[1], value):
        return False
    gains = moment_at(market, stand).gains(value)
    return all([as_ratio(coins[letter]).is_at_most(gains[letter] + number) for letter in gains])


def worths(market, stand, coins):
    check_stand(market, stand)
    check_coins(market, stand, coins)
    told = as_coins(coins)
    most = greatest_average(market, stand, told)
    if most is None:
        return None
    return -greatest_average(market, stand, {letter: -told[letter] for letter in told}), most
