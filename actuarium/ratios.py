"""Integers, ratios, interest rates, times and chances, on which all other files rest."""

from math import gcd, lcm

from actuarium.errors import BadChance, BadRate, BadTime

ZERO = (0, 1)
ONE = (1, 1)
MOST_BOTTOM = 1000


def is_integer(value):
    """Tell whether a value is an integer, which True and False are not here."""
    return isinstance(value, int) and not isinstance(value, bool)


def is_between(value, low, high):
    """Tell whether a value is an integer from low to high."""
    return is_integer(value) and low <= value <= high


def is_row(value, many, low, high):
    """Tell whether a value is a tuple of so many integers from low to high."""
    return isinstance(value, tuple) and len(value) == many and all(is_between(entry, low, high) for entry in value)


def is_ratio(value):
    """Tell whether a value is a pair of integers in lowest terms with a positive bottom."""
    if not isinstance(value, tuple) or len(value) != 2:
        return False
    top, bottom = value
    return is_integer(top) and is_integer(bottom) and bottom > 0 and gcd(top, bottom) == 1


def is_small_ratio(value, low, high, most):
    """Tell whether a value is a ratio from low to high, two integers, with a bottom of at most `most`."""
    if not is_ratio(value):
        return False
    top, bottom = value
    return bottom <= most and low * bottom <= top <= high * bottom


def is_chance(value):
    """Tell whether a value is a ratio from 0 to 1 with a small bottom."""
    return is_small_ratio(value, 0, 1, MOST_BOTTOM)


def check_rate(rate):
    """Raise BadRate for a value that is not an interest rate."""
    if not is_ratio(rate) or abs(rate[0]) > 1000 or rate[1] > 1000 or rate[0] <= -rate[1]:
        raise BadRate("an interest rate is a small ratio greater than -1")


def check_time(time, low, high):
    """Raise BadTime for a value that is not an integer from low to high."""
    if not is_between(time, low, high):
        raise BadTime(f"not an integer from {low} to {high}")


def check_chance(chance):
    """Raise BadChance for a value that is not a ratio from 0 to 1 with a small bottom."""
    if not is_chance(chance):
        raise BadChance(f"a chance is a ratio from 0 to 1 with a bottom of at most {MOST_BOTTOM}")


def check_level(level):
    """Raise BadChance for a value that is not a chance less than 1."""
    check_chance(level)
    if level == ONE:
        raise BadChance("this chance is less than 1")


def make_ratio(top, bottom):
    """Return the ratio of two integers, the bottom not 0."""
    shared = gcd(top, bottom)
    if bottom < 0:
        shared = -shared
    return (top // shared, bottom // shared)


def plus(one, other):
    """Return the sum of two ratios."""
    return make_ratio(one[0] * other[1] + other[0] * one[1], one[1] * other[1])


def minus(one, other):
    """Return one ratio less another one."""
    return make_ratio(one[0] * other[1] - other[0] * one[1], one[1] * other[1])


def multiplied(one, other):
    """Return the product of two ratios."""
    return make_ratio(one[0] * other[0], one[1] * other[1])


def divided(one, other):
    """Return one ratio divided by another one, which is not 0."""
    return make_ratio(one[0] * other[1], one[1] * other[0])


def is_less(one, other):
    """Tell whether one ratio is less than another one."""
    return one[0] * other[1] < other[0] * one[1]


def total(ratios):
    """Return the sum of ratios."""
    found = ZERO
    for ratio in ratios:
        found = plus(found, ratio)
    return found


def power(ratio, times):
    """Return a ratio multiplied by itself so many times."""
    found = ONE
    for _ in range(times):
        found = (found[0] * ratio[0], found[1] * ratio[1])
    return found


def growth(rate):
    """Return what one unit of money is worth a year later."""
    return (rate[0] + rate[1], rate[1])


def discount(rate):
    """Return what one unit of money was worth a year earlier."""
    return (rate[1], rate[0] + rate[1])


def all_multiplied(ratios):
    """Return the product of ratios."""
    found = ONE
    for ratio in ratios:
        found = multiplied(found, ratio)
    return found


def ascending(ratios):
    """Return the list of some ratios, the least one first."""
    shared = 1
    for _, bottom in ratios:
        shared = lcm(shared, bottom)
    return sorted(ratios, key=lambda ratio: ratio[0] * (shared // ratio[1]))


def sum_above(values, edge):
    """Return the sum of the values times the part of their index that lies above an edge."""
    return total([multiplied((index - edge, 1), value) for index, value in enumerate(values) if index > edge])


def earliest(values, wanted):
    """Return the parts of the values, the earliest ones first, that sum to a ratio."""
    taken = []
    for value in values:
        part = value if is_less(value, wanted) else wanted
        taken.append(part)
        wanted = minus(wanted, part)
    return taken


def folded(one, other):
    """Return the coefficients of the product of two polynomials, those of the lowest powers first."""
    found = [ZERO] * (len(one) + len(other) - 1)
    for low, first in enumerate(one):
        for high, second in enumerate(other):
            found[low + high] = plus(found[low + high], multiplied(first, second))
    return found


def solution(rows, sums):
    """Return the only list of ratios for which the sum of the products with each row is the sum asked for."""
    lines = [[*row, wanted] for row, wanted in zip(rows, sums)]
    many = len(lines)
    for at in range(many):
        spot = min(below for below in range(at, many) if lines[below][at] != ZERO)
        lines[at], lines[spot] = lines[spot], lines[at]
        lead = lines[at][at]
        lines[at] = [divided(entry, lead) for entry in lines[at]]
        for other in range(many):
            if other != at:
                lines[other] = less_multiple(lines[other], lines[other][at], lines[at])
    return [line[-1] for line in lines]


def less_multiple(line, factor, other):
    """Return a line of ratios less a multiple of another one."""
    return [minus(entry, multiplied(factor, second)) for entry, second in zip(line, other)]


def is_triple(value, starts, goals):
    """Tell whether a value is an index below `starts`, an index below `goals` and a positive ratio."""
    if not isinstance(value, tuple) or len(value) != 3:
        return False
    start, goal, part = value
    if not is_between(start, 0, starts - 1) or not is_between(goal, 0, goals - 1):
        return False
    return is_ratio(part) and part[0] > 0


def are_triples(value, starts, goals):
    """Tell whether a value is an ascending tuple of such triples, no pair of indexes twice."""
    if not isinstance(value, tuple) or not all(is_triple(triple, starts, goals) for triple in value):
        return False
    pairs = [(start, goal) for start, goal, _ in value]
    return all(pair < later for pair, later in zip(pairs, pairs[1:]))
