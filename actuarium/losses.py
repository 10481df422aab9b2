"""The loss on a policy: its chances by the time of death, its variance, and premiums that keep it rare."""

from actuarium.errors import NoPremium
from actuarium.lives import dying_part, living_part, span_of
from actuarium.policies import check_policy, dying_at, entry_of, net_paid_at, premiums_of_one, reserve_list
from actuarium.policies import without_premiums
from actuarium.ratios import ONE, ZERO, ascending, discount, divided, is_less, minus, multiplied, plus, power, total
from actuarium.ratios import check_level


def loss_rows(policy):
    """Return the list of the pairs of the loss and its chance, for each year in which somebody dies."""
    lives, age, rate = policy[:3]
    paid = ZERO
    rows = []
    for time in range(span_of(lives, age)):
        paid = plus(paid, multiplied(power(discount(rate), time), net_paid_at(policy, time)))
        at_death = multiplied(power(discount(rate), time + 1), entry_of(policy[4], time))
        chance = dying_part(lives, age, time)
        if chance != ZERO:
            rows.append((plus(paid, at_death), chance))
    return rows


def merged(rows):
    """Return the ascending list of pairs of a ratio and a chance, the chances of equal ratios added."""
    chances = {}
    for ratio, chance in rows:
        chances[ratio] = plus(chances.get(ratio, ZERO), chance)
    return [(ratio, chances[ratio]) for ratio in ascending(list(chances))]


def squared(ratio):
    """Return a ratio times itself."""
    return multiplied(ratio, ratio)


def losses(policy):
    """Return the ascending tuple of the pairs of all unlike losses and their chances."""
    check_policy(policy)
    return tuple(merged(loss_rows(policy)))


def variance(policy):
    """Return the expected square of the loss less the square of the worth."""
    check_policy(policy)
    squares = total([multiplied(chance, squared(loss)) for loss, chance in loss_rows(policy)])
    return minus(squares, squared(reserve_list(policy)[0]))


def year_variances(policy):
    """Return the part of the variance that each year of the span brings."""
    check_policy(policy)
    lives, age, rate = policy[:3]
    values = reserve_list(policy)
    found = []
    for time in range(span_of(lives, age)):
        dying = dying_at(policy, time)
        at_risk = minus(entry_of(policy[4], time), values[time + 1])
        spread = multiplied(multiplied(dying, minus(ONE, dying)), squared(at_risk))
        living = multiplied(power(discount(rate), 2 * (time + 1)), living_part(lives, age, time))
        found.append(multiplied(living, spread))
    return tuple(found)


def chance_of_loss(policy):
    """Return the chance of a loss greater than 0."""
    check_policy(policy)
    return total([chance for loss, chance in loss_rows(policy) if is_less(ZERO, loss)])


def safe_premium(policy, chance):
    """Return the least premium with which the chance of a loss greater than 0 is at most a chance."""
    check_policy(policy)
    check_level(chance)
    if policy[6] == 0:
        raise NoPremium("no premium is ever paid")
    costs = loss_rows(without_premiums(policy))
    ones = loss_rows(premiums_of_one(policy))
    # For each time of death there is one premium with which the loss is 0; with a smaller one it is greater than 0.
    edges = merged([(divided(cost, one), dying) for (cost, dying), (one, _) in zip(costs, ones)])
    edge, above = edges.pop()
    while not is_less(chance, above):
        edge, dying = edges.pop()
        above = plus(above, dying)
    return edge
