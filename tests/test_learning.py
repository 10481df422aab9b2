"""Point 24: what claims teach."""

import itertools
import random
import unittest
from fractions import Fraction

from actuarium.errors import BadPrior, BadSeen, BadTime, NeverSeen
from actuarium.learning import expected_after, fair_weight, kinds_after, linear_after
from tests.support import (
    ANYTHING, Checks, bad_thing, fraction, is_claims, is_int, is_pair, is_ratio, is_time, mean, outcomes, ratio, ratios,
    replaced, rows_of_claims)

PRIOR = ((1, (1, 1)), (1, (1, 0, 1)))
THREE = ((5, (3, 1)), (2, (1, 1, 1, 0, 2)), (1, (0, 0, 4, 1)))


def bad_index(value):
    """The index of a value that is no prior, False for a prior."""
    return bad_thing(value, 1, 5, lambda thing: is_pair(thing) and is_int(thing[0], 1, 1000) and is_claims(thing[1]))


def are_seen(value):
    return type(value) is tuple and len(value) <= 8 and all(is_int(claim, 0, 12) for claim in value)


def kinds(prior):
    """The pairs of the chance and the claims of each kind."""
    whole = sum(weight for weight, _ in prior)
    return [(Fraction(weight, whole), claims) for weight, claims in prior]


def all_rows(prior, many):
    """Go through all rows of so many claims of all kinds, with the number of the kind and the chance of both."""
    for at, (part, claims) in enumerate(kinds(prior)):
        for row, chance in rows_of_claims(claims, many):
            yield at, row, part * chance


def kinds_by_rows(prior, seen):
    """The chances of the kinds, of all chances of all rows that begin with these claims together."""
    found = [Fraction(0)] * len(prior)
    for at, row, chance in all_rows(prior, len(seen)):
        if tuple(row) == tuple(seen):
            found[at] += chance
    return [part / sum(found) for part in found] if any(found) else None


def next_by_rows(prior, seen):
    """The expected last claim of all rows that begin with these claims."""
    whole = told = Fraction(0)
    for _, row, chance in all_rows(prior, len(seen) + 1):
        if tuple(row[:-1]) == tuple(seen):
            whole += chance
            told += chance * row[-1]
    return told / whole


def variances(prior):
    """The variance of the means of the kinds, and the expected variance within a kind."""
    means = [mean(claims) for _, claims in prior]
    guess = sum(part * each for (part, _), each in zip(kinds(prior), means))
    between = sum(part * (each - guess) ** 2 for (part, _), each in zip(kinds(prior), means))
    within = Fraction(0)
    for (part, claims), each in zip(kinds(prior), means):
        within += part * sum(chance * (amount - each) ** 2 for amount, chance in outcomes(claims))
    return between, within


def error_of(prior, many, number, factor):
    """The expected square of what a number plus a multiple of the mean of the seen claims misses the kind's mean by."""
    found = Fraction(0)
    means = [mean(claims) for _, claims in prior]
    for at, row, chance in all_rows(prior, many):
        guess = number + factor * Fraction(sum(row), many)
        found += chance * (guess - means[at]) ** 2
    return found


def next_error_of(prior, many, number, factor):
    """The expected square of what a number plus a multiple of the mean of the seen claims misses the next claim by."""
    found = Fraction(0)
    for _, row, chance in all_rows(prior, many + 1):
        found += chance * (number + factor * Fraction(sum(row[:-1]), many) - row[-1]) ** 2
    return found


def some_priors(seed, many=12):
    chance = random.Random(seed)
    for at in range(many):
        prior = []
        for _ in range(1 + at % 5):
            claims = [chance.choice((0, 1, 2, 5)) for _ in range(chance.randint(0, 3))] + [chance.randint(1, 4)]
            prior.append((chance.choice((1, 2, 7, 1000)), tuple(claims)))
        yield tuple(prior)


class LearningTest(Checks, unittest.TestCase):
    def test_examples(self):
        found = [kinds_after(PRIOR, (1,)), expected_after(PRIOR, ()), fair_weight(PRIOR, 1), linear_after(PRIOR, (2,))]
        self.same(found, [((1, 1), (0, 1)), (3, 4), (1, 11), (19, 22)])

    def test_by_all_rows(self):
        chance = random.Random(241)
        seen_never = 0
        for prior in some_priors(242, 20):
            for many in range(4):
                rows = {tuple(row) for _, row, _ in all_rows(prior, many)}
                others = {tuple(chance.randint(0, 4) for _ in range(many)) for _ in range(4)}
                for seen in sorted(chance.sample(sorted(rows), min(5, len(rows)))) + sorted(others):
                    wanted = kinds_by_rows(prior, seen)
                    if wanted is None:
                        seen_never += 1
                        self.is_told(NeverSeen, kinds_after, prior, seen)
                        self.is_told(NeverSeen, expected_after, prior, seen)
                    else:
                        self.same(kinds_after(prior, seen), ratios(wanted))
                        self.same(expected_after(prior, seen), ratio(next_by_rows(prior, seen)))
        self.assertGreater(seen_never, 20)

    def test_claim_by_claim(self):
        # What was learnt from the first claims is the prior of the next one.
        chance = random.Random(243)
        for prior in some_priors(244, 15):
            prior = tuple((weight, tuple(max(1, entry) for entry in claims[:2]) + (1,) * 3) for weight, claims in prior)
            seen = tuple(chance.randint(0, 3) for _ in range(8))
            parts = [part for part, _ in kinds(prior)]
            for claim in seen:
                parts = [part * Fraction(claims[claim], sum(claims)) for part, (_, claims) in zip(parts, prior)]
                parts = [part / sum(parts) for part in parts]
            self.same(kinds_after(prior, seen), ratios(parts))
            self.same(kinds_after(prior, seen[::-1]), ratios(parts))
            self.same(expected_after(prior, seen), ratio(sum(part * mean(claims) for part, (_, claims) in zip(parts, prior))))

    def test_edges(self):
        self.same(kinds_after(PRIOR, ()), ((1, 2), (1, 2)))
        self.same(kinds_after(PRIOR, (0,) * 8), ((1, 2), (1, 2)))
        self.same(kinds_after(((3, (1,)),), ()), ((1, 1),))
        self.same(kinds_after(((3, (1, 1)),), (1, 0, 1)), ((1, 1),))
        self.same(kinds_after(((1, (1,)), (2, (1,)), (3, (1,)), (4, (1,)), (5, (1,))), (0,)), ratios(Fraction(k, 15) for k in range(1, 6)))
        # Only the last kind can have claims of 12, and no kind of these can have one of 3.
        prior = ((1, (1,)), (1, (1,) * 3), (1000, (1, 0, 0, 0) + (1,) * 9))
        self.same(kinds_after(prior, (12,)), ((0, 1), (0, 1), (1, 1)))
        self.same(expected_after(prior, (12, 0)), (36, 5))
        self.is_told(NeverSeen, kinds_after, prior, (3,))
        self.is_told(NeverSeen, expected_after, prior, (3,))
        self.is_told(NeverSeen, kinds_after, prior, (12, 1))
        self.is_told(NeverSeen, kinds_after, prior, (1, 12))
        self.is_told(NeverSeen, kinds_after, ((1, (1,)),), (12,))
        self.is_told(NeverSeen, expected_after, ((1, (0, 1)),), (0, 0, 0, 0, 0, 0, 0, 0))


class WeightTest(Checks, unittest.TestCase):
    def test_by_variances(self):
        for prior in [PRIOR, THREE, *some_priors(245, 25)]:
            between, within = variances(prior)
            for years in range(9):
                told = years * between
                wanted = told / (told + within) if told + within else Fraction(0)
                self.same(fair_weight(prior, years), ratio(wanted))

    def test_linear(self):
        chance = random.Random(246)
        for prior in [PRIOR, THREE, *some_priors(247, 25)]:
            between, within = variances(prior)
            guess = sum(part * mean(claims) for part, claims in kinds(prior))
            self.same(linear_after(prior, ()), ratio(guess))
            for many in range(1, 9):
                seen = tuple(chance.randint(0, 12) for _ in range(many))
                told = many * between
                weight = told / (told + within) if told + within else Fraction(0)
                self.same(linear_after(prior, seen), ratio(weight * Fraction(sum(seen), many) + (1 - weight) * guess))

    def test_buehlmanns_sentence(self):
        # No other number and multiple misses less, neither the mean of the kind nor the next claim.
        steps = [Fraction(step, 7) for step in (-9, -1, 0, 1, 9)]
        for prior in [PRIOR, THREE, *some_priors(248, 8)]:
            for many in (1, 2):
                factor = fraction(fair_weight(prior, many))
                number = fraction(linear_after(prior, (0,) * many))
                self.assertEqual(fraction(linear_after(prior, (12,) * many)), number + 12 * factor)
                for function in (error_of, next_error_of):
                    least = function(prior, many, number, factor)
                    for more, times in itertools.product(steps, steps):
                        self.assertLessEqual(least, function(prior, many, number + more, factor + times))

    def test_edges(self):
        # By hand: the means are 1/2 and 1, so a is 1/16; within the kinds the variances are 1/4 and 1, so s is 5/8.
        self.same([fair_weight(PRIOR, years) for years in (0, 1, 2, 8)], [(0, 1), (1, 11), (1, 6), (4, 9)])
        # Kinds without any variance, alike or not: a alone counts, or nothing does.
        self.same(fair_weight(((1, (1,)), (1, (0, 1))), 3), (1, 1))
        self.same(fair_weight(((1, (1,)), (1, (0, 1))), 0), (0, 1))
        self.same(linear_after(((1, (1,)), (1, (0, 1))), (1, 1)), (1, 1))
        self.same(fair_weight(((1, (0, 1)), (2, (0, 7))), 5), (0, 1))
        self.same(linear_after(((1, (0, 1)), (2, (0, 7))), (5, 5)), (1, 1))
        self.same(fair_weight(((4, (0, 0, 1)),), 0), (0, 1))
        self.same(fair_weight(((4, (0, 0, 1)),), 8), (0, 1))
        # One kind that varies, and kinds with the same mean: nothing is to be learnt.
        self.same(fair_weight(((4, (1, 1)),), 8), (0, 1))
        self.same(fair_weight(((1, (1, 0, 1)), (1, (0, 1))), 8), (0, 1))
        # Claims that no kind can have are mixed in all the same.
        self.same(linear_after(PRIOR, (12,)), ratio(Fraction(12, 11) + Fraction(10, 11) * Fraction(3, 4)))


class ErrorsTest(Checks, unittest.TestCase):
    calls = ((kinds_after, ((1,),)), (expected_after, ((),)), (fair_weight, (1,)), (linear_after, ((2,),)))

    def test_wrong_priors(self):
        more = [
            ((1, ()),), ((1, (0,)),), ((1, (1, 0)),), ((0, (1,)),), ((1001, (1,)),), ((1, (1001,)),), ((1, (-1, 1)),),
            ((1, (1,) * 14),), ((True, (1,)),), ((1, (True,)),), ([1, (1,)],), ((1, [1]),), ((1, (1,), 1),), ((1,),), PRIOR * 3,
            (*PRIOR, (1, (1,) * 14)), (((1, 1), (1,)),), ((-1, (1,)),),
        ]
        for value in more:
            self.assertIsNot(bad_index(value), False)
        self.refuses_things(self.calls, PRIOR, BadPrior, bad_index, more)
        self.same(kinds_after(((1000, (1000,) * 13),) * 5, (12,)), ((1, 5),) * 5)

    def test_index_of_the_first_bad_pair(self):
        for many in range(1, 6):
            for at in range(many):
                value = PRIOR[:1] * at + ((0, (1,)),) + (None,) * (many - at - 1)
                self.is_told(BadPrior, fair_weight, value, 1, index=at)
        self.is_told(BadPrior, fair_weight, (None,) * 6, 1, index=None)
        self.is_told(BadPrior, fair_weight, (), 1, index=None)

    def test_wrong_seen(self):
        good = (1, 0, 1)
        for function in (kinds_after, expected_after, linear_after):
            self.refuses(function, [PRIOR, ()], 1, BadSeen, are_seen)
            for at in range(3):
                for value in ANYTHING:
                    if not is_int(value, 0, 12):
                        self.is_told(BadSeen, function, PRIOR, replaced(good, (at,), value))
            for bad in ((13,), (-1,), (0,) * 9, (True,), (0, False), [1], ((1,),)):
                self.is_told(BadSeen, function, PRIOR, bad)
        self.is_told(NeverSeen, kinds_after, PRIOR, (12,))
        self.assertTrue(is_ratio(linear_after(PRIOR, (12,) * 8)))

    def test_wrong_years(self):
        self.refuses(fair_weight, [PRIOR, 0], 1, BadTime, is_time(0, 8))
        for years in (-1, 9, True, (1, 1)):
            self.is_told(BadTime, fair_weight, PRIOR, years)

    def test_leftmost_error(self):
        for function in (kinds_after, expected_after, linear_after):
            self.first_error_wins(function, [PRIOR, ()], [((PRIOR[0], (1, ())), BadPrior), ((13,), BadSeen)])
            self.is_told(BadSeen, function, PRIOR, (2, 1, 13))
        self.first_error_wins(fair_weight, [PRIOR, 1], [((PRIOR[0], (1, ())), BadPrior), (9, BadTime)])

    def test_arguments_stay(self):
        for function, rest in self.calls:
            self.keeps_arguments(function, PRIOR, *rest)


if __name__ == "__main__":
    unittest.main()
