"""Yields of payments: how many there are, where they lie, and which of two is greater.

With x for 1 plus the yield, payments are the coefficients of a polynomial in x,
and the yields are its roots greater than 0. Polynomials are lists of integers,
that of the lowest power first, the last one not 0; a list without integers is 0.
"""

from math import gcd

from actuarium.errors import NoYield
from actuarium.payments import check_payments
from actuarium.ratios import check_rate, check_time, growth


def sign_of(number):
    """Return -1, 0 or 1 as a number is negative, 0 or positive."""
    if number == 0:
        return 0
    return 1 if number > 0 else -1


def primitive(many):
    """Return a polynomial divided by the greatest positive integer that divides it."""
    while many and many[-1] == 0:
        many = many[:-1]
    shared = 0
    for factor in many:
        shared = gcd(shared, factor)
    return [factor // shared for factor in many]


def slope(many):
    """Return the derivative of a polynomial."""
    return [power * factor for power, factor in enumerate(many)][1:]


def product_of(one, other):
    """Return the product of two polynomials."""
    found = [0] * (len(one) + len(other))
    for low, factor in enumerate(one):
        for high, second in enumerate(other):
            found[low + high] += factor * second
    return primitive(found)


def remainder(one, other):
    """Return the remainder of a division of polynomials, up to a positive factor."""
    rest = list(one)
    while len(rest) >= len(other):
        lead, lowest = rest[-1], len(rest) - len(other)
        # Only a positive factor may be multiplied in: the signs are what is counted.
        rest = [factor * abs(other[-1]) for factor in rest]
        for power, factor in enumerate(other):
            rest[lowest + power] -= lead * sign_of(other[-1]) * factor
        rest = primitive(rest)
    return rest


def quotient(one, other):
    """Return a primitive polynomial divided by a primitive one that divides it."""
    rest = list(one)
    steps = len(one) - len(other) + 1
    found = [0] * steps
    for lowest in reversed(range(steps)):
        found[lowest] = rest[lowest + len(other) - 1] // other[-1]
        for power, factor in enumerate(other):
            rest[lowest + power] -= found[lowest] * factor
    return found


def chain_of(one, other):
    """Return two polynomials and the negative remainders that follow, as C. Sturm forms them."""
    found = [one]
    while other:
        found.append(other)
        one, other = other, [-factor for factor in remainder(one, other)]
    return found


def sign_at(many, top, bottom):
    """Return the sign of a polynomial at the ratio of two integers, the bottom positive."""
    found, scale = 0, 1
    for factor in reversed(many):
        found = found * top + factor * scale
        scale = scale * bottom
    return sign_of(found)


def sign_changes(signs):
    """Return how often the signs change, those that are 0 left out."""
    kept = [sign for sign in signs if sign != 0]
    return sum(1 for one, other in zip(kept, kept[1:]) if one != other)


def changes_above(chain, top, bottom):
    """Return how many more sign changes a chain has at the ratio of two integers than far above."""
    near = sign_changes([sign_at(many, top, bottom) for many in chain])
    return near - sign_changes([sign_of(many[-1]) for many in chain])


def yield_polynomial(payments):
    """Return a polynomial that has 1 plus each yield as a root, once, and no root 0."""
    many = list(reversed(payments))
    while many and many[0] == 0:
        del many[0]
    many = primitive(many)
    if not many:
        raise NoYield("all payments are 0")
    repeated = chain_of(many, primitive(slope(many)))[-1]
    return quotient(many, repeated)


def roots_above(many, top, bottom):
    """Return how many roots above a ratio a polynomial without repeated roots has."""
    return changes_above(chain_of(many, primitive(slope(many))), top, bottom)


def only_yield(payments):
    """Return the polynomial of payments with exactly one yield."""
    many = yield_polynomial(payments)
    if roots_above(many, 0, 1) != 1:
        raise NoYield("there is not exactly one yield")
    return many


def yields_above(payments, rate):
    """Return the number of unlike yields that are greater than a rate."""
    check_payments(payments)
    check_rate(rate)
    top, bottom = growth(rate)
    return roots_above(yield_polynomial(payments), top, bottom)


def yield_count(payments):
    """Return the number of all yields."""
    check_payments(payments)
    return roots_above(yield_polynomial(payments), 0, 1)


def reaches(many, top, bottom):
    """Tell whether the only root above 0 of a polynomial is at least a ratio not below 0."""
    # The root is not repeated: below it the sign is the other one, above it that of the highest power.
    return sign_at(many, top, bottom) != sign_of(many[-1])


def yield_floor(payments, places):
    """Return the greatest integer not greater than the only yield times 10 to the power `places`."""
    check_payments(payments)
    check_time(places, 0, 8)
    many = only_yield(payments)
    scale = 1
    for _ in range(places):
        scale = scale * 10
    low, high = 0, scale
    while reaches(many, high, scale):
        low, high = high, 2 * high
    while high - low > 1:
        middle = (low + high) // 2
        if reaches(many, middle, scale):
            low = middle
        else:
            high = middle
    return low - scale


def compare_yields(one, other):
    """Return -1, 0 or 1 as the only yield of the first payments is smaller, equal or greater."""
    check_payments(one)
    check_payments(other)
    first = only_yield(one)
    second = only_yield(other)
    # A. Tarski: with this chain the changes add up the signs of the second polynomial at the roots of the first one.
    chain = chain_of(first, primitive(remainder(product_of(slope(first), second), first)))
    return changes_above(chain, 0, 1) * sign_of(second[-1])


def is_plain(payments):
    """Tell whether the running sums of the payments change their sign exactly once."""
    check_payments(payments)
    running, signs = 0, []
    for payment in payments:
        running = running + payment
        signs.append(sign_of(running))
    return sign_changes(signs) == 1
