"""Pools of members who bear their losses together, and fair shares of what they keep for the worst."""

from itertools import combinations

from actuarium.errors import BadMembers, BadOutcomes
from actuarium.ratios import ONE, are_ratios, check_level, divided, earliest, is_between, is_filled, is_less, is_row
from actuarium.ratios import make_ratio, minus, mixed, total

MOST_OUTCOMES = 8
MOST_MEMBERS = 4
MOST_WEIGHT = 1000
MOST_LOSS = 1000


def is_outcome(value):
    """Tell whether a value is a pair of a weight and of losses of some members."""
    if not is_filled(value, 2, 2) or not is_between(value[0], 1, MOST_WEIGHT):
        return False
    return is_filled(value[1], 1, MOST_MEMBERS) and is_row(value[1], len(value[1]), 0, MOST_LOSS)


def check_outcomes(outcomes):
    """Raise BadOutcomes for a value that is not a tuple of outcomes."""
    if not is_filled(outcomes, 1, MOST_OUTCOMES):
        raise BadOutcomes(None)
    for index, outcome in enumerate(outcomes):
        if not is_outcome(outcome) or len(outcome[1]) != len(outcomes[0][1]):
            raise BadOutcomes(index)


def check_members(outcomes, members):
    """Raise BadMembers for a value that is not an ascending tuple of indexes of members."""
    many = len(outcomes[0][1])
    if not is_filled(members, 1, many) or not all(is_between(member, 0, many - 1) for member in members):
        raise BadMembers("a group is a tuple of indexes of members")
    if any(later <= member for member, later in zip(members, members[1:])):
        raise BadMembers("the members of a group are ascending")


def everybody(outcomes):
    """Return the list of the indexes of all members."""
    return list(range(len(outcomes[0][1])))


def loss_of(outcome, members):
    """Return the sum of the losses of some members."""
    return sum([outcome[1][member] for member in members])


def worst_shares(outcomes, members, level):
    """Return the expected losses of all members in the outcomes that are worst for a group of them."""
    ordered = sorted(outcomes, key=lambda outcome: -loss_of(outcome, members))
    weights = [weight for weight, _ in ordered]
    part = minus(ONE, level)
    parts = earliest([make_ratio(weight, sum(weights)) for weight in weights], part)
    found = []
    for member in everybody(outcomes):
        lost = mixed(parts, [(losses[member], 1) for _, losses in ordered])
        found.append(divided(lost, part))
    return found


def group_shortfall(outcomes, members, level):
    """Return the expected loss of a group in the outcomes that are worst for it."""
    return total_of(worst_shares(outcomes, members, level), members)


def total_of(values, members):
    """Return the sum of the shares of a group."""
    return total([values[member] for member in members])


def pool_shortfall(outcomes, members, level):
    """Return the shortfall of the sum of the losses of a group."""
    check_outcomes(outcomes)
    check_members(outcomes, members)
    check_level(level)
    return group_shortfall(outcomes, members, level)


def shares(outcomes, level):
    """Return shares of the shortfall of all members with which no group bears more than its own shortfall."""
    check_outcomes(outcomes)
    check_level(level)
    # What a group loses in the outcomes that are worst for all is not more than in those that are worst for it.
    return tuple(worst_shares(outcomes, everybody(outcomes), level))


def shows_shares(outcomes, level, value):
    """Tell whether a value is shares of the shortfall with which no group bears more than its own."""
    check_outcomes(outcomes)
    check_level(level)
    every = everybody(outcomes)
    if not are_ratios(value, len(every)) or total(value) != group_shortfall(outcomes, every, level):
        return False
    for size in range(1, len(every)):
        for members in combinations(every, size):
            if is_less(group_shortfall(outcomes, members, level), total_of(value, members)):
                return False
    return True
