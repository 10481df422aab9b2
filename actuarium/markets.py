"""Markets: prices of payments, what each time is worth in them, free lunches, and covers."""

from math import lcm

from actuarium.errors import BadMarket, BadPayments, FreeLunch
from actuarium.ratios import ONE, ZERO, are_ratios, best_mix, divided, is_between, is_filled, is_integer, is_row, mixed
from actuarium.ratios import plus, wholes

MOST_PAIRS = 4
MOST_TIMES = 4
MOST_PRICE = 1000
MOST_PAID = 1000


def is_priced(value):
    """Tell whether a value is a pair of a price and of payments at some times."""
    if not is_filled(value, 2, 2) or not is_between(value[0], 1, MOST_PRICE):
        return False
    return is_filled(value[1], 1, MOST_TIMES) and is_row(value[1], len(value[1]), -MOST_PAID, MOST_PAID)


def check_market(market):
    """Raise BadMarket for a value that is not a market."""
    if not is_filled(market, 1, MOST_PAIRS):
        raise BadMarket(None)
    for index, pair in enumerate(market):
        if not is_priced(pair) or len(pair[1]) != len(market[0][1]):
            raise BadMarket(index)


def prices_of(market):
    """Return the list of the prices of all pairs."""
    return wholes([price for price, _ in market])


def payment_rows(market):
    """Return the list of the payments of all pairs."""
    return [wholes(payments) for _, payments in market]


def least_worths(market):
    """Return the pair of the parts and the prices that show whether a market has worths.

    The parts are what each time and one unit now are worth above the least worth, the least worth, 0 or 1, and what
    it is below 1. If it is 0, the prices of the pairs are amounts of a free lunch.
    """
    rows = []
    for price, payments in market:
        row = [*payments, -price]
        rows.append(wholes([*row, sum(row), 0]))
    many = len(market[0][1]) + 1
    rows.append([ZERO] * many + [ONE, ONE])
    return best_mix(rows, [ZERO] * len(market) + [ONE], [ZERO] * many + [ONE, ZERO])


def worths(market):
    """Return positive worths of all times with which each pair is worth its price, None if there are none."""
    check_market(market)
    parts, _ = least_worths(market)
    *above, least, _ = parts
    if least == ZERO:
        return None
    *later, now = [plus(part, least) for part in above]
    return tuple(divided(worth, now) for worth in later)


def free_lunch(market):
    """Return how many of each pair to buy for a free lunch, None if there is none."""
    check_market(market)
    parts, amounts = least_worths(market)
    if parts[-2] == ONE:
        return None
    shared = 1
    for _, bottom in amounts:
        shared = lcm(shared, bottom)
    return tuple(top * (shared // bottom) for top, bottom in amounts[:-1])


def shows_worths(market, value):
    """Tell whether a value is worths of a market."""
    check_market(market)
    if not are_ratios(value, len(market[0][1])) or any(worth[0] <= 0 for worth in value):
        return False
    return all(mixed(value, row) == price for row, price in zip(payment_rows(market), prices_of(market)))


def shows_lunch(market, value):
    """Tell whether a value is a free lunch of a market."""
    check_market(market)
    if not is_filled(value, len(market), len(market)) or not all(is_integer(amount) for amount in value):
        return False
    cost = sum([amount * pair[0] for amount, pair in zip(value, market)])
    paid = [sum([amount * pair[1][time] for amount, pair in zip(value, market)]) for time in range(len(market[0][1]))]
    return cost <= 0 and min(paid) >= 0 and (cost < 0 or max(paid) > 0)


def best_cover(market, wanted):
    """Return the pair of the dearest worths and the amounts of the cheapest cover, None if there are none."""
    check_market(market)
    if not is_row(wanted, len(market[0][1]), -MOST_PAID, MOST_PAID):
        raise BadPayments("one small integer for each time of the market")
    if worths(market) is None:
        raise FreeLunch("there is a free lunch")
    return best_mix(payment_rows(market), prices_of(market), wholes(wanted))


def cheapest_cover(market, wanted):
    """Return the least cost of payments that are never smaller than the wanted ones, and the amounts of the pairs."""
    found = best_cover(market, wanted)
    if found is None:
        return None
    return (mixed(found[1], prices_of(market)), tuple(found[1]))


def dearest_worths(market, wanted):
    """Return worths from 0 on that fit the prices and with which the wanted payments are worth most."""
    found = best_cover(market, wanted)
    return None if found is None else tuple(found[0])
