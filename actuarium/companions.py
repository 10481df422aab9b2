"""Several lives together, which live and die without regard to one another."""

from actuarium.errors import BadAge, BadAmounts, BadCompanions
from actuarium.lives import dying_part, is_age, is_life_table, living_part, span_of
from actuarium.ratios import ONE, ZERO, all_multiplied, discount, folded, minus, multiplied, plus, power, total
from actuarium.ratios import check_rate, check_time, is_between, is_row

MOST_COMPANIONS = 5
MOST_AMOUNT = 1000


def is_companion(value):
    """Tell whether a value is a pair of a life table and an age of it."""
    return isinstance(value, tuple) and len(value) == 2 and is_life_table(value[0]) and is_age(value[0], value[1])


def check_companions(companions):
    """Raise BadCompanions for a value that is not a tuple of companions."""
    if not isinstance(companions, tuple) or not 1 <= len(companions) <= MOST_COMPANIONS:
        raise BadCompanions(None)
    for index, companion in enumerate(companions):
        if not is_companion(companion):
            raise BadCompanions(index)


def check_index(companions, index):
    """Raise BadAge for a value that is not the index of a companion."""
    if not is_between(index, 0, len(companions) - 1):
        raise BadAge("there is no companion of this index")


def without(companions, index):
    """Return the list of all companions but one."""
    return [*companions[:index], *companions[index + 1:]]


def living_parts(companions, years):
    """Return the list of the chances, companion by companion, to live so many years later."""
    return [living_part(lives, age, years) for lives, age in companions]


def longest_span(companions):
    """Return the number of times at which some companion may live."""
    return max([span_of(lives, age) for lives, age in companions])


def count_chances(companions, years):
    """Return the list of the chances that exactly 0, 1, .. companions live."""
    found = [ONE]
    for living in living_parts(companions, years):
        found = folded(found, [minus(ONE, living), living])
    return found


def alive_counts(companions, years):
    """Return the chances that exactly 0, 1, .. companions live after a number of years."""
    check_companions(companions)
    check_time(years, 0, 60)
    return tuple(count_chances(companions, years))


def joint_sums(companions, years):
    """Return for r from 0 on the sum, over all choices of r companions, of the chance that all of these live."""
    check_companions(companions)
    check_time(years, 0, 60)
    found = [ONE]
    for living in living_parts(companions, years):
        found = folded(found, [ONE, living])
    return tuple(found)


def value_of_counts(companions, rate, amounts):
    """Return the value of payments of the amount of the count of those who live, as long as somebody may live."""
    check_companions(companions)
    check_rate(rate)
    if not is_row(amounts, len(companions) + 1, -MOST_AMOUNT, MOST_AMOUNT):
        raise BadAmounts("there is one small integer for each count of companions")
    found = ZERO
    for time in range(longest_span(companions)):
        chances = count_chances(companions, time)
        mean = total([multiplied((amount, 1), chance) for amount, chance in zip(amounts, chances)])
        found = plus(found, multiplied(power(discount(rate), time), mean))
    return found


def dies_first(companions, index):
    """Return the chance that a companion dies in an earlier year than all others."""
    check_companions(companions)
    check_index(companions, index)
    lives, age = companions[index]
    found = ZERO
    for time in range(span_of(lives, age)):
        outlived = all_multiplied(living_parts(without(companions, index), time + 1))
        found = plus(found, multiplied(dying_part(lives, age, time), outlived))
    return found


def left_alone(companions, rate, index):
    """Return the value of payments of 1 at all times at which a companion lives and no other one does."""
    check_companions(companions)
    check_rate(rate)
    check_index(companions, index)
    lives, age = companions[index]
    found = ZERO
    for time in range(span_of(lives, age)):
        others = living_parts(without(companions, index), time)
        alone = all_multiplied([minus(ONE, living) for living in others])
        chance = multiplied(living_part(lives, age, time), alone)
        found = plus(found, multiplied(power(discount(rate), time), chance))
    return found
