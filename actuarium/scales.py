"""Scales of premiums that rise and fall with the number of claims, and what they teach not to report."""

from actuarium.claims import chances_of, check_claims, mean_claim
from actuarium.errors import BadScale, NotWhole
from actuarium.learning import check_prior
from actuarium.ratios import ONE, ZERO, check_rate, check_time, discount, divided, is_filled, is_less, is_row, minus
from actuarium.ratios import mixed, multiplied, plus, solution, wholes
from actuarium.states import expected, is_table

MOST_CLASSES = 5
MOST_COLUMNS = 4
MOST_LEVEL = 1000
MOST_YEARS = 8


def are_moves(value):
    """Tell whether a value is the rows of the classes after a year, one row for each class."""
    if not is_filled(value, 2, MOST_CLASSES) or not is_filled(value[0], 2, MOST_COLUMNS):
        return False
    return is_table(value, len(value), len(value[0]), 0, len(value) - 1)


def check_scale(scale):
    """Raise BadScale for a value that is not a scale."""
    if not is_filled(scale, 2, 2) or not are_moves(scale[0]):
        raise BadScale("moves are 2 to 5 rows of 2 to 4 classes")
    if not is_row(scale[1], len(scale[0]), 0, MOST_LEVEL):
        raise BadScale("levels are integers from 0 on, one for each class")


def step_rows(scale, counts):
    """Return for each class the list of the chances of all classes a year later."""
    moves = scale[0]
    rows = []
    for row in moves:
        steps = [ZERO] * len(moves)
        for count, chance in enumerate(chances_of(counts)):
            goal = row[min(count, len(row) - 1)]
            steps[goal] = plus(steps[goal], chance)
        rows.append(steps)
    return rows


def reached_from(rows, start):
    """Return the dict of all classes that can be reached from one in one or more years."""
    found = {}
    waiting = [start]
    while waiting:
        place = waiting.pop()
        for goal, chance in enumerate(rows[place]):
            if chance != ZERO and goal not in found:
                found[goal] = True
                waiting.append(goal)
    return found


def steady(scale, counts):
    """Return the list of the chances of the classes that a year does not change."""
    rows = step_rows(scale, counts)
    many = len(rows)
    if any(len(reached_from(rows, start)) < many for start in range(many)):
        raise NotWhole("not every class can be reached from every class")
    # What comes into each class equals what was there; the last class follows from the others.
    equations = []
    for goal in range(many - 1):
        equation = [row[goal] for row in rows]
        equation[goal] = minus(equation[goal], ONE)
        equations.append(equation)
    return solution([*equations, [ONE] * many], [ZERO] * (many - 1) + [ONE])


def steady_classes(scale, counts):
    """Return the chances of the classes that a year does not change."""
    check_scale(scale)
    check_claims(counts)
    return tuple(steady(scale, counts))


def mean_level(scale, counts):
    """Return the expected level after a long time."""
    check_scale(scale)
    check_claims(counts)
    return mixed(steady(scale, counts), wholes(scale[1]))


def fair_levels(scale, prior):
    """Return for each class the expected number of claims of somebody who is found in it after a long time."""
    check_scale(scale)
    check_prior(prior)
    weights = [weight for weight, _ in prior]
    means = [mean_claim(counts) for _, counts in prior]
    rows = [steady(scale, counts) for _, counts in prior]
    found = []
    for chances in zip(*rows):
        claimed = [multiplied(chance, mean) for chance, mean in zip(chances, means)]
        found.append(divided(expected(weights, claimed), expected(weights, chances)))
    return tuple(found)


def first_reported(claims, paid, reported):
    """Return the least amount that is worth reporting, None if there is none.

    Paid and reported are what is expected to be paid later if a claim is not reported and if it is.
    """
    worth_it = [amount for amount, weight in enumerate(claims) if amount > 0 and weight > 0
                and not is_less(plus((amount, 1), paid), reported)]
    return min(worth_it, default=None)


def year_pair(scale, claims, rate, later, place):
    """Return the least cost of somebody in a class and the first amount to report, from the costs a year later."""
    moves, levels = scale
    paid, reported = later[moves[place][0]], later[moves[place][1]]
    ends = [paid]
    for amount in range(1, len(claims)):
        alone = plus((amount, 1), paid)
        ends.append(reported if is_less(reported, alone) else alone)
    cost = plus((levels[place], 1), multiplied(discount(rate), expected(claims, ends)))
    return (cost, first_reported(claims, paid, reported))


def hunger(scale, claims, years, rate):
    """Return for each number of years to come and each class the least cost and the first amount to report."""
    check_scale(scale)
    check_claims(claims)
    check_time(years, 0, MOST_YEARS)
    check_rate(rate)
    many = len(scale[0])
    rows = [((ZERO, None),) * many]
    for _ in range(years):
        later = [cost for cost, _ in rows[-1]]
        rows.append(tuple(year_pair(scale, claims, rate, later, place) for place in range(many)))
    return tuple(rows)
