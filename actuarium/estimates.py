"""Estimates: how many live on by records of some who were lost, and rates made smooth."""

from actuarium.errors import BadAmount, BadAmounts, BadRates, BadRecords
from actuarium.ratios import ONE, check_time, has_small_parts, is_between, is_filled, is_row, make_ratio, multiplied
from actuarium.ratios import solution, wholes

MOST_RECORDS = 12
MOST_AGE = 40
MOST_RATES = 8
MOST_PART = 1000
MOST_WEIGHT = 1000
MOST_ORDER = 3
MOST_STRENGTH = 1000


def is_record(value):
    """Tell whether a value says from when to when somebody was watched and whether they died then."""
    if not is_row(value, 3, 0, MOST_AGE):
        return False
    begin, end, died = value
    return begin < end and died <= 1


def check_records(records):
    """Raise BadRecords for a value that is not records."""
    if not is_filled(records, 1, MOST_RECORDS):
        raise BadRecords(None)
    for index, record in enumerate(records):
        if not is_record(record):
            raise BadRecords(index)


def product_limit(records):
    """Return for each age of a death the part of those who live on beyond it."""
    check_records(records)
    left = ONE
    pairs = []
    for age in range(MOST_AGE + 1):
        deaths = sum(died for _, end, died in records if end == age)
        if deaths > 0:
            at_risk = sum(1 for begin, end, _ in records if begin < age <= end)
            left = multiplied(left, make_ratio(at_risk - deaths, at_risk))
            pairs.append((age, left))
    return tuple(pairs)


def check_rates(rates):
    """Raise BadRates for a value that is not a tuple of rates to be smoothed."""
    if not is_filled(rates, 2, MOST_RATES):
        raise BadRates(None)
    for index, rate in enumerate(rates):
        if not has_small_parts(rate, MOST_PART):
            raise BadRates(index)


def difference_rows(many, order):
    """Return the rows of the integers with which so many values make each of their differences of an order."""
    rows = [[1 if at == place else 0 for at in range(many)] for place in range(many)]
    for _ in range(order):
        rows = [[later - now for now, later in zip(row, following)] for row, following in zip(rows, rows[1:])]
    return rows


def smoothed(rates, weights, order, strength):
    """Return the values that lie near the rates and have small differences of an order."""
    check_rates(rates)
    many = len(rates)
    if not is_row(weights, many, 1, MOST_WEIGHT):
        raise BadAmounts(f"weights are integers from 1 to {MOST_WEIGHT}, one for each rate")
    check_time(order, 1, min(MOST_ORDER, many - 1))
    if not is_between(strength, 0, MOST_STRENGTH):
        raise BadAmount(f"a strength is an integer from 0 to {MOST_STRENGTH}")
    differences = difference_rows(many, order)
    # The sum is least where half of its slope in the direction of each value is 0.
    rows = []
    for at in range(many):
        slopes = [strength * sum([row[at] * row[other] for row in differences]) for other in range(many)]
        slopes[at] += weights[at]
        rows.append(wholes(slopes))
    return tuple(solution(rows, [multiplied((weight, 1), rate) for weight, rate in zip(weights, rates)]))
