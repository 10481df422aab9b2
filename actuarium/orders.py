"""Layers of claims, and claims that are smaller or safer than others."""

from actuarium.claims import chance_above, chances_of, check_claims
from actuarium.ratios import ZERO, are_triples, check_time, earliest, is_less, minus, sum_above, total

MOST_EDGE = 20


def check_both(one, other):
    """Raise BadClaims if one of two values is not claims."""
    check_claims(one)
    check_claims(other)


def layer(claims, low, high):
    """Return the expected part of a claim that lies above low and not above high."""
    check_claims(claims)
    check_time(low, 0, MOST_EDGE)
    check_time(high, low, MOST_EDGE)
    chances = chances_of(claims)
    return minus(sum_above(chances, low), sum_above(chances, high))


def greater_above(one, other):
    """Return the least amount that the first claims exceed with a greater chance, None if there is none."""
    for amount in range(len(one)):
        if is_less(chance_above(other, amount), chance_above(one, amount)):
            return amount
    return None


def is_smaller(one, other):
    """Tell whether the first claims exceed no amount with a greater chance than the second ones."""
    check_both(one, other)
    return greater_above(one, other) is None


def ladder_of(one, other):
    """Return a ladder from claims to greater ones: parts with equal chances, from the least amounts up."""
    left = chances_of(other)
    rungs = []
    for amount, chance in enumerate(chances_of(one)):
        taken = earliest(left, chance)
        left = [minus(free, part) for free, part in zip(left, taken)]
        rungs = rungs + [(amount, goal, part) for goal, part in enumerate(taken) if part != ZERO]
    return tuple(rungs)


def smaller_paper(one, other):
    """Return a ladder if the first claims are smaller, otherwise the least amount that shows that they are not."""
    check_both(one, other)
    amount = greater_above(one, other)
    if amount is not None:
        return ("above", amount)
    return ladder_of(one, other)


def shows_ladder(one, other, value):
    """Tell whether a value is a ladder from the first claims to the second ones."""
    check_both(one, other)
    if not are_triples(value, len(one), len(other)) or any(amount > goal for amount, goal, _ in value):
        return False
    for amount, chance in enumerate(chances_of(one)):
        if total([part for start, _, part in value if start == amount]) != chance:
            return False
    for amount, chance in enumerate(chances_of(other)):
        if total([part for _, goal, part in value if goal == amount]) != chance:
            return False
    return True


def riskier_above(one, other):
    """Return the least edge above which the first claims have the greater expected part, None if there is none."""
    first, second = chances_of(one), chances_of(other)
    for edge in range(len(first)):
        if is_less(sum_above(second, edge), sum_above(first, edge)):
            return edge
    return None


def is_safer(one, other):
    """Tell whether the first claims have no greater expected part above any edge than the second ones."""
    check_both(one, other)
    # Between whole edges the expected parts run straight, and below 0 their difference stays as it is.
    return riskier_above(one, other) is None


def safer_witness(one, other):
    """Return the least edge above which the first claims have the greater expected part, None if there is none."""
    check_both(one, other)
    return riskier_above(one, other)
