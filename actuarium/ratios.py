"""Integers, ratios, interest rates, times and chances, and sums of ratios, on which all other files rest."""

from itertools import combinations
from math import gcd, lcm

from actuarium.errors import BadChance, BadRate, BadTime

ZERO = (0, 1)
ONE = (1, 1)
MOST_BOTTOM = 1000


def is_integer(value):
    """Tell whether a value is an integer, which True and False are not here."""
    return isinstance(value, int) and not isinstance(value, bool)


def is_between(value, low, high):
    """Tell whether a value is an integer from low to high."""
    return is_integer(value) and low <= value <= high


def is_filled(value, low, high):
    """Tell whether a value is a tuple of at least `low` and at most `high` things."""
    return isinstance(value, tuple) and low <= len(value) <= high


def is_row(value, many, low, high):
    """Tell whether a value is a tuple of so many integers from low to high."""
    return isinstance(value, tuple) and len(value) == many and all(is_between(entry, low, high) for entry in value)


def is_ratio(value):
    """Tell whether a value is a pair of integers in lowest terms with a positive bottom."""
    if not isinstance(value, tuple) or len(value) != 2:
        return False
    top, bottom = value
    return is_integer(top) and is_integer(bottom) and bottom > 0 and gcd(top, bottom) == 1


def are_ratios(value, many):
    """Tell whether a value is a tuple of so many ratios."""
    return isinstance(value, tuple) and len(value) == many and all(is_ratio(entry) for entry in value)


def has_small_parts(value, most):
    """Tell whether a value is a ratio with a top and a bottom of at most `most` in absolute value."""
    return is_ratio(value) and abs(value[0]) <= most and value[1] <= most


def is_small_ratio(value, low, high, most):
    """Tell whether a value is a ratio from low to high, two integers, with a bottom of at most `most`."""
    if not is_ratio(value):
        return False
    top, bottom = value
    return bottom <= most and low * bottom <= top <= high * bottom


def is_chance(value):
    """Tell whether a value is a ratio from 0 to 1 with a small bottom."""
    return is_small_ratio(value, 0, 1, MOST_BOTTOM)


def is_rate(value):
    """Tell whether a value is an interest rate."""
    return has_small_parts(value, 1000) and value[0] > -value[1]


def check_rate(rate):
    """Raise BadRate for a value that is not an interest rate."""
    if not is_rate(rate):
        raise BadRate("an interest rate is a small ratio greater than -1")


def check_time(time, low, high):
    """Raise BadTime for a value that is not an integer from low to high."""
    if not is_between(time, low, high):
        raise BadTime(f"not an integer from {low} to {high}")


def check_chance(chance):
    """Raise BadChance for a value that is not a ratio from 0 to 1 with a small bottom."""
    if not is_chance(chance):
        raise BadChance(f"a chance is a ratio from 0 to 1 with a bottom of at most {MOST_BOTTOM}")


def check_level(level):
    """Raise BadChance for a value that is not a chance less than 1."""
    check_chance(level)
    if level == ONE:
        raise BadChance("this chance is less than 1")


def make_ratio(top, bottom):
    """Return the ratio of two integers, the bottom not 0."""
    shared = gcd(top, bottom)
    if bottom < 0:
        shared = -shared
    return (top // shared, bottom // shared)


def wholes(integers):
    """Return the list of some integers as ratios."""
    return [(integer, 1) for integer in integers]


def plus(one, other):
    """Return the sum of two ratios."""
    return make_ratio(one[0] * other[1] + other[0] * one[1], one[1] * other[1])


def minus(one, other):
    """Return one ratio less another one."""
    return make_ratio(one[0] * other[1] - other[0] * one[1], one[1] * other[1])


def multiplied(one, other):
    """Return the product of two ratios."""
    return make_ratio(one[0] * other[0], one[1] * other[1])


def divided(one, other):
    """Return one ratio divided by another one, which is not 0."""
    return make_ratio(one[0] * other[1], one[1] * other[0])


def is_less(one, other):
    """Tell whether one ratio is less than another one."""
    return one[0] * other[1] < other[0] * one[1]


def total(ratios):
    """Return the sum of ratios."""
    found = ZERO
    for ratio in ratios:
        found = plus(found, ratio)
    return found


def mixed(parts, values):
    """Return the sum of some values, each one multiplied by its part."""
    return total([multiplied(part, value) for part, value in zip(parts, values)])


def power(ratio, times):
    """Return a ratio multiplied by itself so many times."""
    found = ONE
    for _ in range(times):
        found = (found[0] * ratio[0], found[1] * ratio[1])
    return found


def growth(rate):
    """Return what one unit of money is worth a year later."""
    return (rate[0] + rate[1], rate[1])


def discount(rate):
    """Return what one unit of money was worth a year earlier."""
    return (rate[1], rate[0] + rate[1])


def all_multiplied(ratios):
    """Return the product of ratios."""
    found = ONE
    for ratio in ratios:
        found = multiplied(found, ratio)
    return found


def ascending(ratios):
    """Return the list of some ratios, the least one first."""
    shared = 1
    for _, bottom in ratios:
        shared = lcm(shared, bottom)
    return sorted(ratios, key=lambda ratio: ratio[0] * (shared // ratio[1]))


def sum_above(values, edge):
    """Return the sum of the values times the part of their index that lies above an edge."""
    return total([multiplied((index - edge, 1), value) for index, value in enumerate(values) if index > edge])


def earliest(values, wanted):
    """Return the parts of the values, the earliest ones first, that sum to a ratio."""
    taken = []
    for value in values:
        part = value if is_less(value, wanted) else wanted
        taken.append(part)
        wanted = minus(wanted, part)
    return taken


def folded(one, other):
    """Return the coefficients of the product of two polynomials, those of the lowest powers first."""
    found = [ZERO] * (len(one) + len(other) - 1)
    for low, first in enumerate(one):
        for high, second in enumerate(other):
            found[low + high] = plus(found[low + high], multiplied(first, second))
    return found


def solution(rows, sums):
    """Return the only list of ratios for which the sum of the products with each row is the sum asked for."""
    lines = [[*row, wanted] for row, wanted in zip(rows, sums)]
    many = len(lines)
    for at in range(many):
        spot = min(below for below in range(at, many) if lines[below][at] != ZERO)
        lines[at], lines[spot] = lines[spot], lines[at]
        lead = lines[at][at]
        lines[at] = [divided(entry, lead) for entry in lines[at]]
        for other in range(many):
            if other != at:
                lines[other] = less_multiple(lines[other], lines[other][at], lines[at])
    return [line[-1] for line in lines]


def less_multiple(line, factor, other):
    """Return a line of ratios less a multiple of another one."""
    return [minus(entry, multiplied(factor, second)) for entry, second in zip(line, other)]


def free_rows(rows):
    """Return the list of the indexes of the rows that are not mixed from the rows before them."""
    free, lines = [], []
    for index, row in enumerate(rows):
        for lead, line in lines:
            row = less_multiple(row, row[lead], line)
        filled = [at for at, entry in enumerate(row) if entry != ZERO]
        if filled:
            first = filled[0]
            lines.append((first, [divided(entry, row[first]) for entry in row]))
            free.append(index)
    return free


def placed(values, places, many):
    """Return the list of so many ratios with the values at their places and 0 elsewhere."""
    found = [ZERO] * many
    for value, place in zip(values, places):
        found[place] = value
    return found


def best_mix(rows, sums, gains):
    """Return the pair of the parts from 0 on with the greatest gain that mix each row to its sum, and of prices.

    There is a price for each row. Mixed by the prices no column is less than its gain, and the sums are the greatest
    gain, so that the prices show that it is the greatest one. If there is none, None is returned.
    """
    free = free_rows(rows)
    # If there is a greatest gain, some columns, as many as there are free rows, give both the parts and the prices.
    for columns in combinations(range(len(gains)), len(free)):
        square = [[rows[at][column] for column in columns] for at in free]
        if len(free_rows(square)) == len(free):
            parts = placed(solution(square, [sums[at] for at in free]), columns, len(gains))
            turned = [list(line) for line in zip(*square)]
            prices = placed(solution(turned, [gains[column] for column in columns]), free, len(rows))
            if are_parts(rows, sums, parts) and are_prices(rows, gains, prices):
                return (parts, prices)
    return None


def are_parts(rows, sums, parts):
    """Tell whether no part is negative and the parts mix each row to its sum."""
    if any(part[0] < 0 for part in parts):
        return False
    return all(mixed(parts, row) == wanted for row, wanted in zip(rows, sums))


def are_prices(rows, gains, prices):
    """Tell whether no column is less than its gain if the prices mix it."""
    return not any(is_less(mixed(prices, column), gain) for column, gain in zip(zip(*rows), gains))


def is_triple(value, starts, goals):
    """Tell whether a value is an index below `starts`, an index below `goals` and a positive ratio."""
    if not isinstance(value, tuple) or len(value) != 3:
        return False
    start, goal, part = value
    if not is_between(start, 0, starts - 1) or not is_between(goal, 0, goals - 1):
        return False
    return is_ratio(part) and part[0] > 0


def are_triples(value, starts, goals):
    """Tell whether a value is an ascending tuple of such triples, no pair of indexes twice."""
    if not isinstance(value, tuple) or not all(is_triple(triple, starts, goals) for triple in value):
        return False
    pairs = [(start, goal) for start, goal, _ in value]
    return all(pair < later for pair, later in zip(pairs, pairs[1:]))
