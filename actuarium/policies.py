"""Policies on one life: what they are worth, and what is kept for them."""

from actuarium.errors import BadPolicy, BadPremium, NoPremium
from actuarium.lives import check_age, check_lives, dying_part, span_of
from actuarium.payments import check_payments
from actuarium.ratios import ONE, ZERO, discount, divided, growth, minus, multiplied, plus
from actuarium.ratios import check_rate, check_time, is_small_ratio

MOST_PREMIUM = 1000000
MOST_YEARS = 40


def check_premium(premium):
    """Raise BadPremium for a value that is not an allowed premium."""
    if not is_small_ratio(premium, -MOST_PREMIUM, MOST_PREMIUM, MOST_PREMIUM):
        raise BadPremium(f"a premium is a ratio from -{MOST_PREMIUM} to {MOST_PREMIUM}")


def check_policy(policy):
    """Raise the error of the first part of a policy that is not allowed."""
    if not isinstance(policy, tuple) or len(policy) != 7:
        raise BadPolicy("a policy is a tuple of seven parts")
    lives, age, rate, alive, dead, premium, years = policy
    check_lives(lives)
    check_age(lives, age)
    check_rate(rate)
    check_payments(alive)
    check_payments(dead)
    check_premium(premium)
    check_time(years, 0, MOST_YEARS)


def entry_of(payments, time):
    """Return the payment at a time as a ratio, 0 beyond the payments."""
    return (payments[time], 1) if time < len(payments) else ZERO


def net_paid_at(policy, time):
    """Return what is paid at a time to somebody who lives then, less the premium of that time."""
    alive, premium, years = policy[3], policy[5], policy[6]
    paid = entry_of(alive, time)
    return minus(paid, premium) if time < years else paid


def dying_at(policy, time):
    """Return the part of those who live at a time of a policy that dies in the year that follows."""
    lives, age = policy[0], policy[1]
    return dying_part(lives, age + time, 0)


def year_end(policy, time, later):
    """Return the expected value a year after a time: what the dying get, and `later` for those who live on."""
    dying = dying_at(policy, time)
    return plus(multiplied(dying, entry_of(policy[4], time)), multiplied(minus(ONE, dying), later))


def reserve_list(policy):
    """Return the list of the reserves at all times of the span, and 0 for its end."""
    back = discount(policy[2])
    found = [ZERO]
    for time in reversed(range(span_of(policy[0], policy[1]))):
        end = multiplied(back, year_end(policy, time, found[-1]))
        found.append(plus(net_paid_at(policy, time), end))
    return found[::-1]


def without_premiums(policy):
    """Return a policy without its premiums."""
    return (*policy[:6], 0)


def premiums_of_one(policy):
    """Return the policy that pays 1 whenever a policy's premium is due."""
    return (*policy[:3], (1,) * policy[6], (), ZERO, 0)


def worth(policy):
    """Return the expected value at time 0 of all that is paid less all premiums."""
    check_policy(policy)
    return reserve_list(policy)[0]


def fair_premium(policy):
    """Return the premium with which the worth of the policy is 0."""
    check_policy(policy)
    if policy[6] == 0:
        raise NoPremium("no premium is ever paid")
    return divided(reserve_list(without_premiums(policy))[0], reserve_list(premiums_of_one(policy))[0])


def reserves(policy):
    """Return the expected value of all that is still to be paid less the premiums, for each time of the span."""
    check_policy(policy)
    return tuple(reserve_list(policy)[:-1])


def fund(policy):
    """Return what each of those who live has in the fund of all premiums, for each time of the span."""
    check_policy(policy)
    lives, age, rate = policy[:3]
    held = ZERO
    shares = []
    for time in range(span_of(lives, age)):
        living, later = lives[age + time], lives[age + time + 1]
        shares.append(divided(held, (living, 1)))
        held = minus(held, multiplied((living, 1), net_paid_at(policy, time)))
        held = multiplied(growth(rate), held)
        held = minus(held, multiplied((living - later, 1), entry_of(policy[4], time)))
    return tuple(shares)


def split_premiums(policy):
    """Return the pair of what is saved and what covers the risk, for each time of the span."""
    check_policy(policy)
    back = discount(policy[2])
    values = reserve_list(policy)
    pairs = []
    for time in range(len(values) - 1):
        now, later = values[time], values[time + 1]
        at_risk = minus(entry_of(policy[4], time), later)
        risk = multiplied(back, multiplied(dying_at(policy, time), at_risk))
        pairs.append((minus(multiplied(back, later), now), risk))
    return tuple(pairs)


def paid_up(policy, time):
    """Return the part of what is still to be paid that the reserve at a time pays without premiums."""
    check_policy(policy)
    check_time(time, 0, span_of(policy[0], policy[1]) - 1)
    promised = reserve_list(without_premiums(policy))[time]
    if promised == ZERO:
        raise NoPremium("nothing is expected to be paid from this time on")
    return divided(reserve_list(policy)[time], promised)
