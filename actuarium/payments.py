"""Payments that are certain, and their values."""

from actuarium.errors import BadPayments, TooMany
from actuarium.ratios import ZERO, discount, growth, multiplied, plus, power
from actuarium.ratios import check_rate, check_time, is_between

MOST_PAYMENTS = 40
MOST_PAID = 1000000


def check_payments(payments):
    """Raise BadPayments for a value that is not a tuple of payments."""
    if not isinstance(payments, tuple) or len(payments) > MOST_PAYMENTS:
        raise BadPayments(f"payments are a tuple of at most {MOST_PAYMENTS} integers")
    if not all(is_between(payment, -MOST_PAID, MOST_PAID) for payment in payments):
        raise BadPayments(f"a payment is an integer from -{MOST_PAID} to {MOST_PAID}")


def present_value(payments, rate):
    """Return the value of all payments at time 0."""
    back = discount(rate)
    found = ZERO
    for payment in reversed(payments):
        found = plus((payment, 1), multiplied(back, found))
    return found


def value_at(payments, rate, time):
    """Return the value of all payments, moved to a time."""
    check_payments(payments)
    check_rate(rate)
    check_time(time, 0, 60)
    return multiplied(present_value(payments, rate), power(growth(rate), time))


def shifted(payments, years):
    """Return the payments that come so many years later."""
    check_payments(payments)
    check_time(years, 0, MOST_PAYMENTS)
    if years + len(payments) > MOST_PAYMENTS:
        raise TooMany(MOST_PAYMENTS)
    return (0,) * years + payments


def level(many):
    """Return so many payments of 1, the first one at time 0."""
    check_time(many, 0, MOST_PAYMENTS)
    return (1,) * many
