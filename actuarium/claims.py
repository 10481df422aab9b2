"""Claims: their amounts by weights, and the totals of fixed and of random numbers of them."""

from actuarium.errors import BadChance, BadClaims
from actuarium.ratios import ONE, ZERO, check_chance, check_time, divided, folded, is_between, make_ratio, minus
from actuarium.ratios import multiplied, plus, sum_above, total

MOST_ENTRIES = 13
MOST_COUNTS = 9
MOST_WEIGHT = 1000
MOST_TIMES = 8
MOST_TOTAL = 40


def are_weights(value, most):
    """Tell whether a value is a tuple of at most so many weights, the last one not 0."""
    if not isinstance(value, tuple) or not 1 <= len(value) <= most:
        return False
    return all(is_between(weight, 0, MOST_WEIGHT) for weight in value) and value[-1] > 0


def check_claims(claims):
    """Raise BadClaims for a value that is not claims."""
    if not are_weights(claims, MOST_ENTRIES):
        raise BadClaims(f"claims are a tuple of at most {MOST_ENTRIES} weights, the last one not 0")


def chances_of(claims):
    """Return the list of the chances of all amounts, from 0 to the greatest one."""
    return [make_ratio(weight, sum(claims)) for weight in claims]


def chance_above(claims, amount):
    """Return the chance that a claim is greater than an amount."""
    return make_ratio(sum(claims[amount + 1:]), sum(claims))


def mean_claim(claims):
    """Return the expected amount of a claim."""
    check_claims(claims)
    return sum_above(chances_of(claims), 0)


def summed(claims, times):
    """Return the chances of all totals of so many claims."""
    check_claims(claims)
    check_time(times, 0, MOST_TIMES)
    found = [ONE]
    for _ in range(times):
        found = folded(found, chances_of(claims))
    return tuple(found)


def random_sum(counts, claims):
    """Return the chances of all totals of a number of claims that is drawn by weights."""
    if not are_weights(counts, MOST_COUNTS):
        raise BadClaims(f"counts are a tuple of at most {MOST_COUNTS} weights, the last one not 0")
    check_claims(claims)
    chances = chances_of(counts)
    found = [chances[-1]]
    # Each round adds one claim to all numbers of claims that are in already, and lets the next smaller number in.
    for chance in reversed(chances[:-1]):
        found = folded(found, chances_of(claims))
        found[0] = plus(found[0], chance)
    return tuple(found)


def folded_up_to(chances, many, most):
    """Return the chances of the totals 0 to most of so many numbers with the same chances."""
    found = [ONE] + [ZERO] * most
    for _ in range(many):
        found = folded(found, chances)[:most + 1]
    return found


def binomial_sum(many, chance, claims, most):
    """Return the chances of the totals 0 to most if there is one claim for each success in so many trials."""
    check_time(many, 1, MOST_TIMES)
    check_chance(chance)
    check_claims(claims)
    check_time(most, 0, MOST_TOTAL)
    trial = [multiplied(chance, part) for part in chances_of(claims)]
    trial[0] = plus(trial[0], minus(ONE, chance))
    return tuple(folded_up_to(trial, many, most))


def wait_chances(chance, claims, most):
    """Return the chances of the totals 0 to most if there is one claim for each failure before a success."""
    failing = [multiplied(minus(ONE, chance), part) for part in chances_of(claims)]
    failing = failing + [ZERO] * most
    # The first trials may fail with a claim of 0; what counts is the first one that does not.
    leaving = minus(ONE, failing[0])
    found = [divided(chance, leaving)]
    for goal in range(1, most + 1):
        parts = [multiplied(failing[amount], found[goal - amount]) for amount in range(1, goal + 1)]
        found.append(divided(total(parts), leaving))
    return found


def waiting_sum(many, chance, claims, most):
    """Return the chances of the totals 0 to most if there is one claim for each failure before success `many`."""
    check_time(many, 1, MOST_TIMES)
    check_chance(chance)
    if chance == ZERO:
        raise BadChance("the chance of a success is greater than 0")
    check_claims(claims)
    check_time(most, 0, MOST_TOTAL)
    return tuple(folded_up_to(wait_chances(chance, claims, most), many, most))
