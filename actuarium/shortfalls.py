"""The worst part of all outcomes of claims, views that show it, and covers for claims."""

from actuarium.claims import chances_of, check_claims
from actuarium.errors import BadCover
from actuarium.ratios import ONE, ZERO, are_ratios, check_level, check_time, divided, earliest, is_between, is_less
from actuarium.ratios import minus, multiplied, sum_above, total

MOST_EDGE = 20


def worst_parts(claims, level):
    """Return for each amount the part of its chance that belongs to the worst outcomes."""
    chances = chances_of(claims)
    return earliest(chances[::-1], minus(ONE, level))[::-1]


def worst_mean(claims, level):
    """Return the expected amount in the worst part of all outcomes."""
    return divided(sum_above(worst_parts(claims, level), 0), minus(ONE, level))


def shortfall(claims, level):
    """Return the expected amount in the worst part of all outcomes, which has the chance 1 less the level."""
    check_claims(claims)
    check_level(level)
    return worst_mean(claims, level)


def worst_view(claims, level):
    """Return a view of claims whose sum is greatest."""
    check_claims(claims)
    check_level(level)
    entries = []
    for chance, part in zip(chances_of(claims), worst_parts(claims, level)):
        seen = ZERO if chance == ZERO else divided(part, multiplied(chance, minus(ONE, level)))
        entries.append(seen)
    return tuple(entries)


def are_entries(value, many, level):
    """Tell whether a value is a tuple of so many ratios from 0 to 1 divided by (1 less the level)."""
    if not are_ratios(value, many):
        return False
    most = divided(ONE, minus(ONE, level))
    return not any(is_less(entry, ZERO) or is_less(most, entry) for entry in value)


def shows_view(claims, level, value):
    """Tell whether a value is a view of claims whose sum is greatest."""
    check_claims(claims)
    check_level(level)
    if not are_entries(value, len(claims), level):
        return False
    seen = [multiplied(entry, chance) for entry, chance in zip(value, chances_of(claims))]
    return total(seen) == ONE and sum_above(seen, 0) == worst_mean(claims, level)


def check_cover(claims, cover):
    """Raise BadCover for a value that is not a cover for claims."""
    if not isinstance(cover, tuple) or len(cover) != len(claims):
        raise BadCover("a cover is a tuple with one integer for each amount")
    if not all(is_between(paid, 0, amount) for amount, paid in enumerate(cover)):
        raise BadCover("a cover pays from nothing to all of each amount")


def kept(claims, cover):
    """Return the claims that are left when a cover has paid."""
    check_claims(claims)
    check_cover(claims, cover)
    left = [0] * len(claims)
    for amount, weight in enumerate(claims):
        left[amount - cover[amount]] += weight
    while left[-1] == 0:
        left.pop()
    return tuple(left)


def cover_above(claims, edge):
    """Return the cover that pays all above an edge."""
    check_claims(claims)
    check_time(edge, 0, MOST_EDGE)
    return tuple(max(0, amount - edge) for amount in range(len(claims)))


def best_edge(claims, cover):
    """Return the least edge above which no more is expected to be paid than by a cover."""
    check_claims(claims)
    check_cover(claims, cover)
    chances = chances_of(claims)
    cost = total([multiplied((paid, 1), chance) for paid, chance in zip(cover, chances)])
    edge = 0
    while is_less(cost, sum_above(chances, edge)):
        edge += 1
    return edge
