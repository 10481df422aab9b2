"""Payments that are spread more than others with the same value and the same mean time."""

from actuarium.errors import NotPlain
from actuarium.payments import MOST_PAYMENTS, check_payments
from actuarium.ratios import ZERO, discount, divided, earliest, is_less, minus, multiplied, plus, power
from actuarium.ratios import are_triples, check_rate, sum_above, total


def check_plain(payments):
    """Raise an error for a value that is not payments, or of which one is negative or all are 0."""
    check_payments(payments)
    if any(payment < 0 for payment in payments) or not any(payment > 0 for payment in payments):
        raise NotPlain("plain payments are not negative and not all 0")


def check_pair(one, other, rate):
    """Raise the error of the first of these that is not allowed."""
    check_plain(one)
    check_plain(other)
    check_rate(rate)


def values_of(payments, rate):
    """Return the values at time 0 of the payments at all times, those beyond the payments 0."""
    back = discount(rate)
    values = [multiplied((payment, 1), power(back, time)) for time, payment in enumerate(payments)]
    return values + [ZERO] * (MOST_PAYMENTS - len(values))


def mean_time(payments, rate):
    """Return the mean of the times of plain payments, weighed by their values."""
    check_plain(payments)
    check_rate(rate)
    values = values_of(payments, rate)
    return divided(sum_above(values, 0), total(values))


def flaw_of(one, other):
    """Return why values are no shield for other ones, () if they are."""
    if total(one) != total(other):
        return ("sum",)
    if sum_above(one, 0) != sum_above(other, 0):
        return ("mean",)
    # All convex functions of whole times are sums of a straight line and positive multiples of times above edges.
    for edge in range(MOST_PAYMENTS):
        if is_less(sum_above(one, edge), sum_above(other, edge)):
            return ("bend", edge)
    return ()


def is_shield(one, other, rate):
    """Tell whether the first payments are a shield for the second ones."""
    check_pair(one, other, rate)
    return flaw_of(values_of(one, rate), values_of(other, rate)) == ()


def least_of(ratios):
    """Return the least one of some ratios."""
    least = ratios[0]
    for ratio in ratios:
        if is_less(ratio, least):
            least = ratio
    return least


def share_around(values, time, wanted):
    """Return neighbouring parts of the values with a sum and a mean time."""
    # Neighbouring parts leave the most spread to the values that remain,
    # so that these stay a shield for what is still to be split.
    taken = earliest(values, wanted)
    lacking = minus(multiplied((time, 1), wanted), sum_above(taken, 0))
    while lacking != ZERO:
        low = min(at for at, part in enumerate(taken) if part != ZERO)
        high = min(at for at, part in enumerate(taken) if at > low and part != values[at])
        free = minus(values[high], taken[high])
        step = least_of([taken[low], free, divided(lacking, (high - low, 1))])
        taken[low] = minus(taken[low], step)
        taken[high] = plus(taken[high], step)
        lacking = minus(lacking, multiplied((high - low, 1), step))
    return taken


def split_of(one, other):
    """Return a split of values over those of a shield for them."""
    left = one
    triples = []
    for time, wanted in enumerate(other):
        taken = share_around(left, time, wanted)
        left = [minus(value, part) for value, part in zip(left, taken)]
        triples = triples + [(time, goal, part) for goal, part in enumerate(taken) if part != ZERO]
    return tuple(triples)


def shield_paper(one, other, rate):
    """Return a split if the first payments are a shield for the second ones, otherwise why they are none."""
    check_pair(one, other, rate)
    first, second = values_of(one, rate), values_of(other, rate)
    flaw = flaw_of(first, second)
    if flaw:
        return flaw
    return split_of(first, second)


def sums_fit(one, other, triples):
    """Tell whether triples have the sums and the mean times of a split."""
    for time, value in enumerate(other):
        parts = [(goal, part) for start, goal, part in triples if start == time]
        if total([part for _, part in parts]) != value:
            return False
        if total([multiplied((goal - time, 1), part) for goal, part in parts]) != ZERO:
            return False
    for time, value in enumerate(one):
        if total([part for _, goal, part in triples if goal == time]) != value:
            return False
    return True


def shows_split(one, other, rate, value):
    """Tell whether a value is a split of the second payments over the first ones."""
    check_pair(one, other, rate)
    if not are_triples(value, len(other), len(one)):
        return False
    return sums_fit(values_of(one, rate), values_of(other, rate), value)
