"""Integers, ratios, interest rates and times, on which all other files rest."""

from math import gcd

from actuarium.errors import BadRate, BadTime

ZERO = (0, 1)
ONE = (1, 1)


def is_integer(value):
    """Tell whether a value is an integer, which True and False are not here."""
    return isinstance(value, int) and not isinstance(value, bool)


def is_between(value, low, high):
    """Tell whether a value is an integer from low to high."""
    return is_integer(value) and low <= value <= high


def is_ratio(value):
    """Tell whether a value is a pair of integers in lowest terms with a positive bottom."""
    if not isinstance(value, tuple) or len(value) != 2:
        return False
    top, bottom = value
    return is_integer(top) and is_integer(bottom) and bottom > 0 and gcd(top, bottom) == 1


def is_small_ratio(value, low, high, most):
    """Tell whether a value is a ratio from low to high, two integers, with a bottom of at most `most`."""
    if not is_ratio(value):
        return False
    top, bottom = value
    return bottom <= most and low * bottom <= top <= high * bottom


def check_rate(rate):
    """Raise BadRate for a value that is not an interest rate."""
    if not is_ratio(rate) or abs(rate[0]) > 1000 or rate[1] > 1000 or rate[0] <= -rate[1]:
        raise BadRate("an interest rate is a small ratio greater than -1")


def check_time(time, low, high):
    """Raise BadTime for a value that is not an integer from low to high."""
    if not is_between(time, low, high):
        raise BadTime(f"not an integer from {low} to {high}")


def make_ratio(top, bottom):
    """Return the ratio of two integers, the bottom not 0."""
    shared = gcd(top, bottom)
    if bottom < 0:
        shared = -shared
    return (top // shared, bottom // shared)


def plus(one, other):
    """Return the sum of two ratios."""
    return make_ratio(one[0] * other[1] + other[0] * one[1], one[1] * other[1])


def minus(one, other):
    """Return one ratio less another one."""
    return make_ratio(one[0] * other[1] - other[0] * one[1], one[1] * other[1])


def multiplied(one, other):
    """Return the product of two ratios."""
    return make_ratio(one[0] * other[0], one[1] * other[1])


def divided(one, other):
    """Return one ratio divided by another one, which is not 0."""
    return make_ratio(one[0] * other[1], one[1] * other[0])


def is_less(one, other):
    """Tell whether one ratio is less than another one."""
    return one[0] * other[1] < other[0] * one[1]


def total(ratios):
    """Return the sum of ratios."""
    found = ZERO
    for ratio in ratios:
        found = plus(found, ratio)
    return found


def power(ratio, times):
    """Return a ratio multiplied by itself so many times."""
    found = ONE
    for _ in range(times):
        found = (found[0] * ratio[0], found[1] * ratio[1])
    return found


def growth(rate):
    """Return what one unit of money is worth a year later."""
    return (rate[0] + rate[1], rate[1])


def discount(rate):
    """Return what one unit of money was worth a year earlier."""
    return (rate[1], rate[0] + rate[1])
