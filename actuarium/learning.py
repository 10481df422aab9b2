"""What seen claims teach about somebody whose kind is not known."""

from actuarium.claims import MOST_ENTRIES, are_weights, chances_of, mean_claim
from actuarium.errors import BadPrior, BadSeen, NeverSeen
from actuarium.ratios import ONE, ZERO, all_multiplied, check_time, divided, is_between, is_filled, make_ratio, minus
from actuarium.ratios import mixed, multiplied, plus, total, wholes
from actuarium.states import expected

MOST_KINDS = 5
MOST_WEIGHT = 1000
MOST_SEEN = 8


def is_kind(value):
    """Tell whether a value is a pair of a weight and the claims of a kind."""
    if not is_filled(value, 2, 2):
        return False
    return is_between(value[0], 1, MOST_WEIGHT) and are_weights(value[1], MOST_ENTRIES)


def check_prior(prior):
    """Raise BadPrior for a value that is not a prior."""
    if not is_filled(prior, 1, MOST_KINDS):
        raise BadPrior(None)
    for index, pair in enumerate(prior):
        if not is_kind(pair):
            raise BadPrior(index)


def check_seen(seen):
    """Raise BadSeen for a value that is not a tuple of seen claims."""
    if not is_filled(seen, 0, MOST_SEEN) or not all(is_between(claim, 0, MOST_ENTRIES - 1) for claim in seen):
        raise BadSeen(f"seen claims are a tuple of at most {MOST_SEEN} amounts")


def weights_of(prior):
    """Return the list of the weights of the kinds."""
    return [weight for weight, _ in prior]


def means_of(prior):
    """Return the list of the expected claims of the kinds."""
    return [mean_claim(claims) for _, claims in prior]


def chance_of_row(claims, seen):
    """Return the chance that claims of a kind come in this row."""
    chances = chances_of(claims)
    return all_multiplied([chances[claim] if claim < len(chances) else ZERO for claim in seen])


def learnt(prior, seen):
    """Return the list of the chances of the kinds behind some claims."""
    check_prior(prior)
    check_seen(seen)
    parts = [multiplied((weight, 1), chance_of_row(claims, seen)) for weight, claims in prior]
    whole = total(parts)
    if whole == ZERO:
        raise NeverSeen("no kind can have these claims")
    return [divided(part, whole) for part in parts]


def kinds_after(prior, seen):
    """Return the chances of the kinds if these claims were seen."""
    return tuple(learnt(prior, seen))


def expected_after(prior, seen):
    """Return the expected amount of the next claim if these claims were seen."""
    return mixed(learnt(prior, seen), means_of(prior))


def mean_square(claims):
    """Return the expected square of a claim."""
    return expected(claims, wholes([amount * amount for amount in range(len(claims))]))


def weight_of_years(prior, years):
    """Return the fair weight of what is seen in so many years."""
    weights, means = weights_of(prior), means_of(prior)
    mean = expected(weights, means)
    squares = expected(weights, [multiplied(each, each) for each in means])
    between = minus(squares, multiplied(mean, mean))
    within = minus(expected(weights, [mean_square(claims) for _, claims in prior]), squares)
    told = multiplied((years, 1), between)
    return ZERO if told == ZERO else divided(told, plus(told, within))


def fair_weight(prior, years):
    """Return the weight of the mean of so many seen claims beside the expected claim of the prior."""
    check_prior(prior)
    check_time(years, 0, MOST_SEEN)
    return weight_of_years(prior, years)


def linear_after(prior, seen):
    """Return the mix, by the fair weight, of the mean of the seen claims and the expected claim of the prior."""
    check_prior(prior)
    check_seen(seen)
    guess = expected(weights_of(prior), means_of(prior))
    if not seen:
        return guess
    weight = weight_of_years(prior, len(seen))
    return mixed([weight, minus(ONE, weight)], [make_ratio(sum(seen), len(seen)), guess])
