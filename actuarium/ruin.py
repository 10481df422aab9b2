"""Somebody gets 1 and pays one claim each year: the chances of ruin, and gifts above a cap before it."""

from actuarium.claims import chance_above, chances_of, check_claims
from actuarium.errors import BadRate, NoGain
from actuarium.ratios import ONE, ZERO, discount, divided, is_less, minus, multiplied, plus, solution, sum_above, total
from actuarium.ratios import check_rate, check_time

MOST_SURPLUS = 20
MOST_YEARS = 12
MOST_CAP = 8


def staying_chance(claims, start, years):
    """Return the chance that the surplus is not below 0 at the ends of so many years; it may begin below 0."""
    chances = chances_of(claims)
    left = {start: ONE}
    for _ in range(years):
        later = {}
        for surplus, living in left.items():
            for amount, chance in enumerate(chances[:surplus + 2]):
                goal = surplus + 1 - amount
                later[goal] = plus(later.get(goal, ZERO), multiplied(living, chance))
        left = later
    return total(list(left.values()))


def ruin_within(claims, start, years):
    """Return the chance of ruin at the end of one of the first years."""
    check_claims(claims)
    check_time(start, 0, MOST_SURPLUS)
    check_time(years, 0, MOST_YEARS)
    return minus(ONE, staying_chance(claims, start, years))


def is_gain(claims):
    """Tell whether the mean of claims is less than 1."""
    return is_less(sum_above(chances_of(claims), 0), ONE)


def safe_chance(claims, start):
    """Return the chance that there is never ruin, for claims whose mean is less than 1."""
    chances = chances_of(claims)
    # L. Takacs: with the chance 1 less the mean the surplus is never again as small as at the beginning;
    # this is so if no claim is paid in the first year and somebody with the surplus 0 is never ruined afterwards.
    safe = [divided(minus(ONE, sum_above(chances, 0)), chances[0])]
    for surplus in range(start):
        lost = [multiplied(chances[amount], safe[surplus + 1 - amount])
                for amount in range(1, min(surplus + 2, len(chances)))]
        safe.append(divided(minus(safe[surplus], total(lost)), chances[0]))
    return safe[start]


def ruin_ever(claims, start):
    """Return the chance that there is ever ruin."""
    check_claims(claims)
    check_time(start, 0, MOST_SURPLUS)
    if chance_above(claims, 1) == ZERO:
        return ZERO
    if not is_gain(claims):
        return ONE
    return minus(ONE, safe_chance(claims, start))


def always_behind(claims, years):
    """Return the chance that for each of the first years the total of the claims so far is less than the years."""
    check_claims(claims)
    check_time(years, 1, MOST_YEARS)
    # A total less than n leaves a surplus of at least 0 to somebody who begins with 1 less than 0.
    return staying_chance(claims, -1, years)


def deficits(claims):
    """Return the chances that somebody who begins with 0 is ruined with a surplus of exactly -1, -2, .."""
    check_claims(claims)
    if not is_gain(claims):
        raise NoGain("the mean of the claims is not less than 1")
    # Turned around in time, the years before ruin with one surplus are those in which a walk stands at one height
    # as its highest so far; it is left upward by claims of 0 alone, so 1 divided by their chance years are expected.
    none = chances_of(claims)[0]
    return tuple(divided(chance_above(claims, amount), none) for amount in range(1, len(claims)))


def capped_values(claims, cap, weight, given):
    """Return the list of the values of all surpluses up to a cap.

    Each one is a weight times the sum of what is given for that surplus and the expected value a year later,
    which is 0 after ruin.
    """
    chances = chances_of(claims)
    rows, sums = [], []
    for surplus in range(cap + 1):
        row = [ZERO] * (cap + 1)
        row[surplus] = ONE
        for amount, chance in enumerate(chances[:surplus + 2]):
            goal = min(cap, surplus + 1 - amount)
            row[goal] = minus(row[goal], multiplied(weight, chance))
        rows.append(row)
        sums.append(multiplied(weight, given[surplus]))
    return solution(rows, sums)


def years_to_ruin(claims, cap, start):
    """Return the expected number of years until ruin, None if it is not certain."""
    check_claims(claims)
    check_time(cap, 0, MOST_CAP)
    check_time(start, 0, cap)
    if chance_above(claims, 1) == ZERO:
        return None
    return capped_values(claims, cap, ONE, [ONE] * (cap + 1))[start]


def check_gift_rate(rate):
    """Raise BadRate for a value that is not an interest rate greater than 0."""
    check_rate(rate)
    if rate[0] <= 0:
        raise BadRate("the interest rate of gifts is greater than 0")


def gift_values(claims, cap, rate):
    """Return the expected value of all gifts before ruin for each surplus up to a cap."""
    # Only from the cap, and only without a claim, does the surplus come to lie above it, by 1.
    given = [ZERO] * cap + [chances_of(claims)[0]]
    return capped_values(claims, cap, discount(rate), given)


def gifts_value(claims, cap, start, rate):
    """Return the expected value of all gifts before ruin."""
    check_claims(claims)
    check_time(cap, 0, MOST_CAP)
    check_time(start, 0, cap)
    check_gift_rate(rate)
    return gift_values(claims, cap, rate)[start]


def best_cap(claims, rate):
    """Return the least cap for which the value of all gifts of somebody who begins with 0 is greatest."""
    check_claims(claims)
    check_gift_rate(rate)
    values = [gift_values(claims, cap, rate)[0] for cap in range(MOST_CAP + 1)]
    best = 0
    for cap, value in enumerate(values):
        if is_less(values[best], value):
            best = cap
    return best
