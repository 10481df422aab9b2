"""Curves of interest rates, each year with its own, and the par rates that belong to them."""

from actuarium.errors import BadCurve, TooMany
from actuarium.payments import check_payments
from actuarium.ratios import ONE, ZERO, discount, divided, has_small_parts, is_filled, is_rate, minus, mixed, multiplied
from actuarium.ratios import plus, wholes

MOST_YEARS = 40
MOST_PART = 1000000


def check_curve(curve):
    """Raise BadCurve for a value that is not a curve."""
    if not is_filled(curve, 1, MOST_YEARS):
        raise BadCurve(None)
    for index, rate in enumerate(curve):
        if not is_rate(rate):
            raise BadCurve(index)


def check_pars(pars):
    """Raise BadCurve for a value that is not a tuple of par rates."""
    if not is_filled(pars, 1, MOST_YEARS):
        raise BadCurve(None)
    for index, par in enumerate(pars):
        if not has_small_parts(par, MOST_PART):
            raise BadCurve(index)


def discounts(curve):
    """Return the list of what one unit at each time is worth at time 0."""
    found = [ONE]
    for rate in curve:
        found.append(multiplied(found[-1], discount(rate)))
    return found


def value_on_curve(payments, curve):
    """Return the value at time 0 of payments, each year with its own rate."""
    check_payments(payments)
    check_curve(curve)
    if any(payments[len(curve) + 1:]):
        raise TooMany(len(curve))
    return mixed(wholes(payments), discounts(curve))


def par_rates(curve):
    """Return for each number of years the rate at which a loan of 1, paid back at its end, is worth 1."""
    check_curve(curve)
    whole = ZERO
    rates = []
    for value in discounts(curve)[1:]:
        whole = plus(whole, value)
        rates.append(divided(minus(ONE, value), whole))
    return tuple(rates)


def from_pars(pars):
    """Return the rates, year by year, that have these par rates, None if there are none."""
    check_pars(pars)
    whole, before = ZERO, ONE
    rates = []
    for par in pars:
        left, grown = minus(ONE, multiplied(par, whole)), plus(ONE, par)
        # What one unit at the end of this year is worth must be positive, as the years before are.
        if grown[0] <= 0 or left[0] <= 0:
            return None
        value = divided(left, grown)
        rates.append(minus(divided(before, value), ONE))
        whole, before = plus(whole, value), value
    return tuple(rates)
