"""Loans that are paid back by the same amount each year."""

from actuarium.errors import BadAmount
from actuarium.payments import present_value
from actuarium.ratios import check_rate, check_time, divided, is_between, minus, multiplied

MOST_AMOUNT = 1000000


def check_loan(amount, rate, years):
    """Raise the error of the first of these that is not allowed."""
    if not is_between(amount, 1, MOST_AMOUNT):
        raise BadAmount(f"an amount is an integer from 1 to {MOST_AMOUNT}")
    check_rate(rate)
    check_time(years, 1, 40)


def worth_of_ones(rate, years):
    """Return the value of payments of 1 at the ends of so many years."""
    return present_value((0,) + (1,) * years, rate)


def yearly_payment(amount, rate, years):
    """Return what is paid each year for a loan."""
    return divided((amount, 1), worth_of_ones(rate, years))


def loan_rows(amount, rate, years):
    """Return what is paid, its interest, what is repaid and what is left, for the end of each year."""
    check_loan(amount, rate, years)
    paid = yearly_payment(amount, rate, years)
    left = (amount, 1)
    rows = []
    for _ in range(years):
        interest = multiplied(rate, left)
        repaid = minus(paid, interest)
        left = minus(left, repaid)
        rows.append((paid, interest, repaid, left))
    return tuple(rows)


def left_of_loan(amount, rate, years, time):
    """Return what is left of a loan at a time: the value then of the payments still to come."""
    check_loan(amount, rate, years)
    check_time(time, 0, years)
    return multiplied(yearly_payment(amount, rate, years), worth_of_ones(rate, years - time))
