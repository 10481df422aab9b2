"""Bounds on what is expected to be paid if only a few facts about the chances are known."""

from actuarium.errors import BadAmounts, BadFacts
from actuarium.ratios import ONE, are_prices, are_ratios, best_mix, check_time, is_filled, is_row, is_small_ratio, mixed
from actuarium.ratios import wholes

MOST_TOP = 8
MOST_FACTS = 2
MOST_VALUE = 1000
MOST_BOTTOM = 1000


def is_fact(value, top):
    """Tell whether a value is a pair of values of all amounts and of their mean."""
    if not is_filled(value, 2, 2) or not is_row(value[0], top + 1, -MOST_VALUE, MOST_VALUE):
        return False
    return is_small_ratio(value[1], -MOST_VALUE, MOST_VALUE, MOST_BOTTOM)


def check_all(top, facts, paid):
    """Raise the error of the first one of the three that is not allowed."""
    check_time(top, 1, MOST_TOP)
    if not is_filled(facts, 0, MOST_FACTS):
        raise BadFacts(None)
    for index, fact in enumerate(facts):
        if not is_fact(fact, top):
            raise BadFacts(index)
    if not is_row(paid, top + 1, -MOST_VALUE, MOST_VALUE):
        raise BadAmounts(f"what is paid is an integer up to {MOST_VALUE} for each amount")


def fact_rows(top, facts):
    """Return the rows that chances mix to the means of the facts, the first one of them to 1."""
    return [[ONE] * (top + 1)] + [wholes(values) for values, _ in facts]


def fact_sums(facts):
    """Return the sums to which chances mix these rows."""
    return [ONE] + [mean for _, mean in facts]


def worst_mix(top, facts, paid):
    """Return the worst chances and the paper that shows it, None if no chances fit."""
    return best_mix(fact_rows(top, facts), fact_sums(facts), wholes(paid))


def worst_chances(top, facts, paid):
    """Return chances that fit the facts with which most is expected to be paid, None if none fit."""
    check_all(top, facts, paid)
    found = worst_mix(top, facts, paid)
    return None if found is None else tuple(found[0])


def bound_paper(top, facts, paid):
    """Return the factors of 1 and of the facts that bound what is paid by its greatest expected sum."""
    check_all(top, facts, paid)
    found = worst_mix(top, facts, paid)
    return None if found is None else tuple(found[1])


def shows_bound(top, facts, paid, value):
    """Tell whether a value is such factors."""
    check_all(top, facts, paid)
    found = worst_mix(top, facts, paid)
    if found is None or not are_ratios(value, len(facts) + 1):
        return False
    greatest = mixed(found[0], wholes(paid))
    return are_prices(fact_rows(top, facts), wholes(paid), value) and mixed(value, fact_sums(facts)) == greatest
