"""When to stop: the best values of all ways to stop, and corrections that show that there are no better ones."""

from actuarium.errors import BadOffers
from actuarium.ratios import ZERO, are_ratios, ascending, check_rate, discount, is_filled, is_less, minus, multiplied
from actuarium.ratios import plus
from actuarium.states import check_model, expected, gains, is_table, last_paid, values_before

MOST_OFFER = 1000


def check_all(model, rate, offers):
    """Raise the error of the first one of the three that is not allowed."""
    check_model(model)
    check_rate(rate)
    steps = model[0]
    if not is_table(offers, len(steps) + 1, len(steps[0]), -MOST_OFFER, MOST_OFFER):
        raise BadOffers(f"offers are integers up to {MOST_OFFER}, one for each time and state")


def better(values, offers):
    """Return the list of the greater ones of values and offers, state by state."""
    return [(offer, 1) if is_less(value, (offer, 1)) else value for value, offer in zip(values, offers)]


def stay_rows(model, rate, offers):
    """Return the list of the expected values of staying, time by time and state by state."""
    rows = [last_paid(model)]
    for time in reversed(range(len(model[0]))):
        rows.append(values_before(model, rate, time, better(rows[-1], offers[time + 1])))
    return rows[::-1]


def best_rows(model, rate, offers):
    """Return the list of the best values, time by time and state by state."""
    return [better(values, row) for values, row in zip(stay_rows(model, rate, offers), offers)]


def best_values(model, rate, offers):
    """Return the greatest expected value of all ways to stop, for each time and state."""
    check_all(model, rate, offers)
    return tuple(tuple(row) for row in best_rows(model, rate, offers))


def stop_times(model, rate, offers):
    """Return for each time and state whether the offer is at least the expected value of staying."""
    check_all(model, rate, offers)
    rows = []
    for values, row in zip(stay_rows(model, rate, offers), offers):
        rows.append(tuple(not is_less((offer, 1), value) for value, offer in zip(values, row)))
    return tuple(rows)


def surprises(model, time, later):
    """Return for each state how much more than expected each step of a year brings, with the values behind it."""
    rows = []
    for state, row in enumerate(model[0][time]):
        ends = gains(model, time, state, later)
        mean = expected(row, ends)
        rows.append(tuple(minus(end, mean) for end in ends))
    return tuple(rows)


def corrections(model, rate, offers):
    """Return corrections of all steps with which no path pays more than the best value of its first state."""
    check_all(model, rate, offers)
    rows = best_rows(model, rate, offers)
    return tuple(surprises(model, time, rows[time + 1]) for time in range(len(model[0])))


def are_corrections(model, value):
    """Tell whether a value is a ratio for each step, such that the expected ratio of each state is 0."""
    steps = model[0]
    if not is_filled(value, len(steps), len(steps)):
        return False
    states = len(steps[0])
    for year, ratios in zip(steps, value):
        if not is_filled(ratios, states, states) or not all(are_ratios(row, states) for row in ratios):
            return False
        if any(expected(weights, row) != ZERO for weights, row in zip(year, ratios)):
            return False
    return True


def luckiest(model, rate, offers, value):
    """Return for each state the most that a path from it pays, less the corrections, with the best time to stop."""
    steps, (staying, _) = model
    back = discount(rate)
    most = better(last_paid(model), offers[-1])
    for time in reversed(range(len(steps))):
        stays = []
        for state, weights in enumerate(steps[time]):
            ends = gains(model, time, state, most)
            paid = [minus(end, less) for end, less, weight in zip(ends, value[time][state], weights) if weight > 0]
            stays.append(plus((staying[time][state], 1), multiplied(back, ascending(paid)[-1])))
        most = better(stays, offers[time])
    return most


def shows_corrections(model, rate, offers, value):
    """Tell whether a value is corrections with which no path pays more than the best value of its first state."""
    check_all(model, rate, offers)
    if not are_corrections(model, value):
        return False
    best = best_rows(model, rate, offers)[0]
    return not any(is_less(start, paid) for start, paid in zip(best, luckiest(model, rate, offers, value)))
