"""Models of states and steps: what is paid on the way, what it is worth, and how likely each state is."""

from actuarium.errors import BadModel, BadState
from actuarium.ratios import ONE, ZERO, discount, make_ratio, minus, mixed, multiplied, plus, wholes
from actuarium.ratios import check_rate, is_between, is_row

MOST_STEPS = 8
MOST_STATES = 4
MOST_WEIGHT = 20
MOST_MOVED = 1000


def is_table(value, rows, columns, low, high):
    """Tell whether a value is a tuple of so many rows of so many integers from low to high."""
    return isinstance(value, tuple) and len(value) == rows and all(is_row(row, columns, low, high) for row in value)


def is_year(value, states):
    """Tell whether a value is the rows of weights of one year, none of them 0 everywhere."""
    return is_table(value, states, states, 0, MOST_WEIGHT) and all(any(row) for row in value)


def are_steps(value):
    """Tell whether a value is a tuple of years that all have the same number of states."""
    if not isinstance(value, tuple) or not 1 <= len(value) <= MOST_STEPS:
        return False
    if not isinstance(value[0], tuple) or not 1 <= len(value[0]) <= MOST_STATES:
        return False
    return all(is_year(year, len(value[0])) for year in value)


def are_moves(value, years, states):
    """Tell whether a value is what is paid for going from state to state, year by year."""
    if not isinstance(value, tuple) or len(value) != years:
        return False
    return all(is_table(year, states, states, -MOST_MOVED, MOST_MOVED) for year in value)


def check_model(model):
    """Raise BadModel for a value that is not a model."""
    if not isinstance(model, tuple) or len(model) != 2 or not are_steps(model[0]):
        raise BadModel("steps")
    steps, paid = model
    years, states = len(steps), len(steps[0])
    if not isinstance(paid, tuple) or len(paid) != 2:
        raise BadModel("staying")
    staying, moving = paid
    if not is_table(staying, years + 1, states, -MOST_MOVED, MOST_MOVED):
        raise BadModel("staying")
    if not are_moves(moving, years, states):
        raise BadModel("moving")


def check_state(model, state):
    """Raise BadState for a value that is not a state of a model."""
    if not is_between(state, 0, len(model[0][0]) - 1):
        raise BadState("the model has no such state")


def expected(weights, values):
    """Return the expected one of some values whose chances have these weights."""
    return mixed([make_ratio(weight, sum(weights)) for weight in weights], values)


def gains(model, time, state, later):
    """Return what somebody in a state has a year later, for each state then with its later value."""
    moved = model[1][1][time][state]
    return [plus((paid, 1), value) for paid, value in zip(moved, later)]


def values_before(model, rate, time, later):
    """Return the list of the expected values at a time, state by state, from those a year later."""
    steps, (staying, _) = model
    back = discount(rate)
    ends = [expected(row, gains(model, time, state, later)) for state, row in enumerate(steps[time])]
    return [plus((paid, 1), multiplied(back, end)) for paid, end in zip(staying[time], ends)]


def last_paid(model):
    """Return the list of what is paid in each state at the last time."""
    return wholes(model[1][0][-1])


def value_rows(model, rate):
    """Return the list of the expected values of all that is still to be paid, time by time and state by state."""
    values = last_paid(model)
    rows = [tuple(values)]
    for time in reversed(range(len(model[0]))):
        values = values_before(model, rate, time, values)
        rows.append(tuple(values))
    return rows[::-1]


def state_values(model, rate):
    """Return the expected values of all that is still to be paid, for each time and state."""
    check_model(model)
    check_rate(rate)
    return tuple(value_rows(model, rate))


def after_year(year, chances):
    """Return the chances of the states a year later."""
    found = [ZERO] * len(chances)
    for chance, row in zip(chances, year):
        for goal, weight in enumerate(row):
            found[goal] = plus(found[goal], multiplied(chance, make_ratio(weight, sum(row))))
    return found


def begun_in(model, start):
    """Return the chances of the states of somebody who is in a state."""
    return [ONE if state == start else ZERO for state in range(len(model[0][0]))]


def chances_at(model, start):
    """Return the chances of all states at each time, for somebody who begins in a state."""
    check_model(model)
    check_state(model, start)
    chances = begun_in(model, start)
    rows = [tuple(chances)]
    for year in model[0]:
        chances = after_year(year, chances)
        rows.append(tuple(chances))
    return tuple(rows)


def spread_in_year(model, rate, time, later, spreads):
    """Return the variances at a time, state by state, from the values and variances a year later."""
    back = discount(rate)
    found = []
    for state, row in enumerate(model[0][time]):
        ends = gains(model, time, state, later)
        squares = [plus(spread, multiplied(end, end)) for spread, end in zip(spreads, ends)]
        mean = expected(row, ends)
        spread_then = minus(expected(row, squares), multiplied(mean, mean))
        found.append(multiplied(multiplied(back, back), spread_then))
    return found


def spread_of(model, rate, start):
    """Return the variance of the value at time 0 of all that is paid to somebody who begins in a state."""
    check_model(model)
    check_rate(rate)
    check_state(model, start)
    rows = value_rows(model, rate)
    spreads = [ZERO] * len(rows[0])
    for time in reversed(range(len(model[0]))):
        spreads = spread_in_year(model, rate, time, rows[time + 1], spreads)
    return spreads[start]


def first_chance(model, start, goal):
    """Return for each time the chance that somebody is in a state then and was not before."""
    check_model(model)
    check_state(model, start)
    check_state(model, goal)
    chances = begun_in(model, start)
    found = [chances[goal]]
    for year in model[0]:
        chances[goal] = ZERO
        chances = after_year(year, chances)
        found.append(chances[goal])
    return tuple(found)
