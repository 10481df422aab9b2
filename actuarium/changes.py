"""Policies whose holders leave early, and policies seen with a second table and rate."""

from actuarium.errors import BadGiven, BadLapses, BadLives
from actuarium.lives import check_age, check_lives, span_of
from actuarium.policies import check_policy, dying_at, entry_of, net_paid_at, reserve_list, year_end
from actuarium.ratios import ONE, ZERO, discount, growth, minus, multiplied, plus
from actuarium.ratios import check_rate, is_chance, is_ratio

MOST_LAPSES = 40


def check_lapses(lapses):
    """Raise BadLapses for a value that is not a tuple of the parts that leave."""
    if not isinstance(lapses, tuple) or len(lapses) > MOST_LAPSES:
        raise BadLapses(f"lapses are a tuple of at most {MOST_LAPSES} ratios")
    if not all(is_chance(part) for part in lapses):
        raise BadLapses("a lapse is a ratio from 0 to 1 with a small bottom")


def check_given(given):
    """Raise BadGiven for a value that is not a tuple of what is given to those who leave."""
    if not isinstance(given, tuple) or len(given) > MOST_LAPSES or not all(is_ratio(amount) for amount in given):
        raise BadGiven(f"what is given is a tuple of at most {MOST_LAPSES} ratios")


def ratio_at(ratios, index):
    """Return the ratio at an index, 0 beyond the last one."""
    return ratios[index] if index < len(ratios) else ZERO


def worth_with_lapses(policy, lapses, given):
    """Return the worth of a policy if parts of those who live leave and get what is given then."""
    check_policy(policy)
    check_lapses(lapses)
    check_given(given)
    back = discount(policy[2])
    value = ZERO
    for time in reversed(range(span_of(policy[0], policy[1]))):
        leaving = ratio_at(lapses, time)
        later = plus(multiplied(leaving, ratio_at(given, time)), multiplied(minus(ONE, leaving), value))
        value = plus(net_paid_at(policy, time), multiplied(back, year_end(policy, time, later)))
    return value


def on_second_basis(policy, lives, rate):
    """Return a policy with another life table and another rate."""
    return (lives, policy[1], rate, *policy[3:])


def held_lists(policy):
    """Return the lists of what is held behind the payments of each time, and of the reserves a year later."""
    values = reserve_list(policy)
    held = [minus(value, net_paid_at(policy, time)) for time, value in enumerate(values[:-1])]
    return held, values[1:]


def profits(policy, lives, rate):
    """Return what is left of the reserve at the end of each year, with a second table and rate."""
    check_policy(policy)
    check_lives(lives)
    check_age(lives, policy[1])
    check_rate(rate)
    second = on_second_basis(policy, lives, rate)
    held, later = held_lists(policy)
    found = []
    for time in range(min(span_of(policy[0], policy[1]), span_of(lives, policy[1]))):
        grown = multiplied(growth(rate), held[time])
        found.append(minus(grown, year_end(second, time, later[time])))
    return tuple(found)


def critical(policy, lives, rate):
    """Return the numbers that tell on which side the reserves with a second table and rate lie."""
    check_policy(policy)
    check_lives(lives)
    if span_of(lives, policy[1]) != span_of(policy[0], policy[1]):
        raise BadLives("the second life table has another span")
    check_rate(rate)
    second = on_second_basis(policy, lives, rate)
    held, later = held_lists(policy)
    found = []
    for time in range(len(held)):
        gained = multiplied(held[time], minus(rate, policy[2]))
        more_dying = minus(dying_at(second, time), dying_at(policy, time))
        at_risk = minus(entry_of(policy[4], time), later[time])
        found.append(minus(gained, multiplied(more_dying, at_risk)))
    return tuple(found)
