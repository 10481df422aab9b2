"""Tables of lives: who lives on, who dies, and how long."""

from math import lcm

from actuarium.errors import BadAge, BadLives, BadRates, TooMany
from actuarium.ratios import ONE, check_time, is_between, is_chance, make_ratio, multiplied

MOST_AGES = 40
MOST_LIVES = 1000000


def is_life_table(value):
    """Tell whether a value is a life table."""
    if not isinstance(value, tuple) or not 2 <= len(value) <= MOST_AGES:
        return False
    if not all(is_between(living, 0, MOST_LIVES) for living in value):
        return False
    falling = all(value[age + 1] <= value[age] for age in range(len(value) - 1))
    return falling and value[-2] > 0 and value[-1] == 0


def check_lives(lives):
    """Raise BadLives for a value that is not a life table."""
    if not is_life_table(lives):
        raise BadLives("a life table is a tuple of numbers that fall to 0")


def is_age(lives, value):
    """Tell whether a value is an index of a life table at which somebody lives."""
    return is_between(value, 0, len(lives) - 2)


def check_age(lives, age):
    """Raise BadAge for a value that is not an age of a life table."""
    if not is_age(lives, age):
        raise BadAge("nobody of the life table has this age")


def span_of(lives, age):
    """Return the number of ages from an age to the last one at which somebody lives."""
    return len(lives) - 1 - age


def living_at(lives, age):
    """Return how many live at an age, which may lie beyond the table."""
    return lives[age] if age < len(lives) else 0


def living_part(lives, age, years):
    """Return the part of those at an age who live so many years later."""
    return make_ratio(living_at(lives, age + years), lives[age])


def dying_part(lives, age, years):
    """Return the part of those at an age who die in the year that begins so many years later."""
    dying = living_at(lives, age + years) - living_at(lives, age + years + 1)
    return make_ratio(dying, lives[age])


def lives_on(lives, age, years):
    """Return the ratio of those who live so many years later to those who live at an age."""
    check_lives(lives)
    check_age(lives, age)
    check_time(years, 0, 60)
    return living_part(lives, age, years)


def dies_in(lives, age, years):
    """Return the ratio of those at an age who die in the year that begins so many years later."""
    check_lives(lives)
    check_age(lives, age)
    check_time(years, 0, 60)
    return dying_part(lives, age, years)


def ages_left(lives, age):
    """Return the expected number of whole years that somebody of an age will still complete."""
    check_lives(lives)
    check_age(lives, age)
    return make_ratio(sum(lives[age + 1:]), lives[age])


def check_rates(rates):
    """Raise BadRates for a value that is not a tuple of rates of death of which only the last one is 1."""
    if not isinstance(rates, tuple) or not 1 <= len(rates) < MOST_AGES:
        raise BadRates(None)
    for index, rate in enumerate(rates):
        if not is_chance(rate):
            raise BadRates(index)
        if (rate == ONE) != (index == len(rates) - 1):
            raise BadRates(index)


def from_rates(rates):
    """Return the life table with the smallest first entry on which these are the parts that die."""
    check_rates(rates)
    parts = [ONE]
    for dying, bottom in rates[:-1]:
        parts.append(multiplied(parts[-1], (bottom - dying, bottom)))
    first = 1
    for _, bottom in parts:
        first = lcm(first, bottom)
    if first > MOST_LIVES:
        raise TooMany(MOST_LIVES)
    lives = [first // bottom * top for top, bottom in parts]
    return (*lives, 0)
