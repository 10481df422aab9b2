"""Payments that are spread more than others with the same value and the same mean time."""

from actuarium.errors import NotPlain
from actuarium.payments import MOST_PAYMENTS, check_payments
from actuarium.ratios import ZERO, discount, divided, is_less, minus, multiplied, plus, power, total
from actuarium.ratios import check_rate, is_between, is_ratio


def check_plain(payments):
    """Raise an error for a value that is not payments, or of which one is negative or all are 0."""
    check_payments(payments)
    if any(payment < 0 for payment in payments) or not any(payment > 0 for payment in payments):
        raise NotPlain("plain payments are not negative and not all 0")


def check_pair(one, other, rate):
    """Raise the error of the first of these that is not allowed."""
    check_plain(one)
    check_plain(other)
    check_rate(rate)


def values_of(payments, rate):
    """Return the values at time 0 of the payments at all times, those beyond the payments 0."""
    back = discount(rate)
    values = [multiplied((payment, 1), power(back, time)) for time, payment in enumerate(payments)]
    return values + [ZERO] * (MOST_PAYMENTS - len(values))


def time_above(values, edge):
    """Return the sum of the values times the time above an edge."""
    return total([multiplied((time - edge, 1), value) for time, value in enumerate(values) if time > edge])


def mean_time(payments, rate):
    """Return the mean of the times of plain payments, weighed by their values."""
    check_plain(payments)
    check_rate(rate)
    values = values_of(payments, rate)
    return divided(time_above(values, 0), total(values))


def flaw_of(one, other):
    """Return why values are no shield for other ones, () if they are."""
    if total(one) != total(other):
        return ("sum",)
    if time_above(one, 0) != time_above(other, 0):
        return ("mean",)
    # All convex functions of whole times are sums of a straight line and positive multiples of times above edges.
    for edge in range(MOST_PAYMENTS):
        if is_less(time_above(one, edge), time_above(other, edge)):
            return ("bend", edge)
    return ()


def is_shield(one, other, rate):
    """Tell whether the first payments are a shield for the second ones."""
    check_pair(one, other, rate)
    return flaw_of(values_of(one, rate), values_of(other, rate)) == ()


def earliest(values, wanted):
    """Return the parts of the values, the earliest ones first, that sum to a ratio."""
    taken = []
    for value in values:
        part = value if is_less(value, wanted) else wanted
        taken.append(part)
        wanted = minus(wanted, part)
    return taken


def least_of(ratios):
    """Return the least one of some ratios."""
    least = ratios[0]
    for ratio in ratios:
        if is_less(ratio, least):
            least = ratio
    return least


def share_around(values, time, wanted):
    """Return neighbouring parts of the values with a sum and a mean time."""
    # Neighbouring parts leave the most spread to the values that remain,
    # so that these stay a shield for what is still to be split.
    taken = earliest(values, wanted)
    lacking = minus(multiplied((time, 1), wanted), time_above(taken, 0))
    while lacking != ZERO:
        low = min(at for at, part in enumerate(taken) if part != ZERO)
        high = min(at for at, part in enumerate(taken) if at > low and part != values[at])
        free = minus(values[high], taken[high])
        step = least_of([taken[low], free, divided(lacking, (high - low, 1))])
        taken[low] = minus(taken[low], step)
        taken[high] = plus(taken[high], step)
        lacking = minus(lacking, multiplied((high - low, 1), step))
    return taken


def split_of(one, other):
    """Return a split of values over those of a shield for them."""
    left = one
    triples = []
    for time, wanted in enumerate(other):
        taken = share_around(left, time, wanted)
        left = [minus(value, part) for value, part in zip(left, taken)]
        triples = triples + [(time, goal, part) for goal, part in enumerate(taken) if part != ZERO]
    return tuple(triples)


def shield_paper(one, other, rate):
    """Return a split if the first payments are a shield for the second ones, otherwise why they are none."""
    check_pair(one, other, rate)
    first, second = values_of(one, rate), values_of(other, rate)
    flaw = flaw_of(first, second)
    if flaw:
        return flaw
    return split_of(first, second)


def is_triple(value, one, other):
    """Tell whether a value is a time of the second payments, a time of the first ones and a positive ratio."""
    if not isinstance(value, tuple) or len(value) != 3:
        return False
    start, goal, part = value
    if not is_between(start, 0, len(other) - 1) or not is_between(goal, 0, len(one) - 1):
        return False
    return is_ratio(part) and part[0] > 0


def is_ascending(triples):
    """Tell whether the pairs of times of triples ascend, none of them twice."""
    pairs = [(start, goal) for start, goal, _ in triples]
    return all(pair < later for pair, later in zip(pairs, pairs[1:]))


def sums_fit(one, other, triples):
    """Tell whether triples have the sums and the mean times of a split."""
    for time, value in enumerate(other):
        parts = [(goal, part) for start, goal, part in triples if start == time]
        if total([part for _, part in parts]) != value:
            return False
        if total([multiplied((goal - time, 1), part) for goal, part in parts]) != ZERO:
            return False
    for time, value in enumerate(one):
        if total([part for _, goal, part in triples if goal == time]) != value:
            return False
    return True


def shows_split(one, other, rate, value):
    """Tell whether a value is a split of the second payments over the first ones."""
    check_pair(one, other, rate)
    if not isinstance(value, tuple) or not all(is_triple(triple, one, other) for triple in value):
        return False
    if not is_ascending(value):
        return False
    return sums_fit(values_of(one, rate), values_of(other, rate), value)
