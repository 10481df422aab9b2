"""Point 16: claims and their totals."""

import itertools
import unittest
from fractions import Fraction
from math import comb

from actuarium.claims import binomial_sum, mean_claim, random_sum, summed, waiting_sum
from actuarium.errors import BadChance, BadClaims, BadTime
from tests.support import (
    Checks, fraction, is_chance, is_claims, is_time, mean, outcomes, ratio, ratios, rows_of_claims)

LONG = (1, 0, 7, 0, 0, 1000, 3, 0, 2, 0, 0, 0, 999)
SOME = [(5,), (1,), (1000,), (0, 1), (1, 1), (3, 0, 1), (1, 0, 3), (0, 0, 0, 2), (2, 3, 0, 5), (0, 4, 0, 0, 1), (7, 1, 1, 1)]
CHANCES = [(0, 1), (1, 1), (1, 2), (1, 3), (2, 3), (999, 1000), (1, 1000), (3, 7)]


def totals_by_rows(claims, times):
    """The chances of all totals by going through all rows of claims."""
    found = [Fraction(0)] * (times * (len(claims) - 1) + 1)
    for row, chance in rows_of_claims(claims, times):
        found[sum(row)] += chance
    return found


def fold(one, other):
    found = [Fraction(0)] * (len(one) + len(other) - 1)
    for low, first in enumerate(one):
        for high, second in enumerate(other):
            found[low + high] += first * second
    return found


def totals_by_folding(claims, times):
    found = [Fraction(1)]
    for _ in range(times):
        found = fold(found, [Fraction(weight, sum(claims)) for weight in claims])
    return found


def mixed(numbers, claims, most):
    """The chances of the totals up to most for a number of claims with these chances."""
    found = [Fraction(0)] * (most + 1)
    totals = [Fraction(1)]
    for part in numbers:
        for total, chance in enumerate(totals[:most + 1]):
            found[total] += part * chance
        totals = fold(totals, [Fraction(weight, sum(claims)) for weight in claims])[:most + 1]
    return found


def panjer(slope, offset, begin, claims, most):
    """H. Panjer's recursion: number k of claims has (slope + offset / k) times the chance of number k - 1."""
    parts = [Fraction(weight, sum(claims)) for weight in claims]
    found = [begin]
    for total in range(1, most + 1):
        terms = [(slope + offset * Fraction(amount, total)) * parts[amount] * found[total - amount]
                 for amount in range(1, min(total, len(parts) - 1) + 1)]
        found.append(sum(terms, Fraction(0)) / (1 - slope * parts[0]))
    return found


class TotalsTest(Checks, unittest.TestCase):
    def test_examples(self):
        found = [mean_claim((1, 0, 3)), summed((1, 1), 2), random_sum((1, 1), (0, 0, 1)),
                 binomial_sum(2, (1, 2), (0, 1), 3), waiting_sum(1, (1, 2), (0, 1), 2)]
        self.same(found, [(3, 2), ((1, 4), (1, 2), (1, 4)), ((1, 2), (0, 1), (1, 2)), ((1, 4), (1, 2), (1, 4), (0, 1)),
                          ((1, 2), (1, 4), (1, 8))])

    def test_means(self):
        for claims in [*SOME, LONG, (1000,) * 13, (0,) * 12 + (1,)]:
            self.same(mean_claim(claims), ratio(mean(claims)))
        self.same(mean_claim((5,)), (0, 1))
        self.same(mean_claim((0,) * 12 + (7,)), (12, 1))

    def test_sums_row_by_row(self):
        for claims in SOME:
            for times in range(9 if len(outcomes(claims)) < 3 else 5):
                self.same(summed(claims, times), ratios(totals_by_rows(claims, times)))
        self.same(summed(LONG, 3), ratios(totals_by_rows(LONG, 3)))

    def test_longest_sums(self):
        for claims in (LONG, (1000,) * 13):
            self.same(summed(claims, 8), ratios(totals_by_folding(claims, 8)))
            self.assertEqual(len(summed(claims, 8)), 97)
        self.same(summed(LONG, 0), ((1, 1),))
        self.same(summed((5,), 8), ((1, 1),))
        self.same(summed((0, 3), 8), ((0, 1),) * 8 + ((1, 1),))

    def test_random_sums_row_by_row(self):
        for claims in SOME[:-1]:
            for counts in [(5,), (1, 1), (0, 0, 1), (3, 0, 1000, 2)]:
                numbers = [Fraction(weight, sum(counts)) for weight in counts]
                found = [Fraction(0)] * ((len(counts) - 1) * (len(claims) - 1) + 1)
                for number, part in enumerate(numbers):
                    for total, chance in enumerate(totals_by_rows(claims, number)):
                        found[total] += part * chance
                self.same(random_sum(counts, claims), ratios(found))

    def test_longest_random_sums(self):
        for counts in [(1,) * 9, (0,) * 8 + (1,), (7, 0, 0, 1, 2, 3, 0, 0, 1000)]:
            for claims in (LONG, (0, 1), (9,)):
                numbers = [Fraction(weight, sum(counts)) for weight in counts]
                self.same(random_sum(counts, claims), ratios(mixed(numbers, claims, 8 * (len(claims) - 1))))
        self.same(random_sum((0,) * 8 + (1,), LONG), summed(LONG, 8))
        self.same(random_sum((5,), LONG), ((1, 1),))


class BinomialTest(Checks, unittest.TestCase):
    def test_trial_by_trial(self):
        for claims in SOME:
            for chance in CHANCES:
                for many in (1, 2, 3):
                    found = [Fraction(0)] * 41
                    for won in itertools.product((False, True), repeat=many):
                        part = Fraction(1)
                        for success in won:
                            part *= fraction(chance) if success else 1 - fraction(chance)
                        for total, claimed in enumerate(totals_by_folding(claims, sum(won))):
                            found[total] += part * claimed
                    for most in (0, 1, 3, 40):
                        self.same(binomial_sum(many, chance, claims, most), ratios(found[:most + 1]))

    def test_panjer(self):
        for claims in [*SOME, LONG]:
            for chance in CHANCES[2:]:
                for many in (1, 4, 8):
                    part = fraction(chance)
                    none = (1 - part + part * Fraction(claims[0], sum(claims))) ** many
                    slope = -part / (1 - part)
                    wanted = panjer(slope, -slope * (many + 1), none, claims, 40)
                    self.same(binomial_sum(many, chance, claims, 40), ratios(wanted))

    def test_edges(self):
        self.same(binomial_sum(8, (0, 1), LONG, 40), ((1, 1),) + ((0, 1),) * 40)
        self.same(binomial_sum(8, (1, 1), LONG, 40), summed(LONG, 8)[:41])
        self.same(binomial_sum(3, (1, 1), (1, 1), 40), (*summed((1, 1), 3), *[(0, 1)] * 37))
        self.same(binomial_sum(5, (1, 2), (3,), 2), ((1, 1), (0, 1), (0, 1)))
        self.same(binomial_sum(1, (1, 2), (0, 1), 0), ((1, 2),))
        self.same(binomial_sum(2, (1, 3), (0, 0, 1), 5), ((4, 9), (0, 1), (4, 9), (0, 1), (1, 9), (0, 1)))


class WaitingTest(Checks, unittest.TestCase):
    def test_failure_by_failure(self):
        # Without claims of 0 no more than 40 of them make a total of up to 40.
        for claims in ((0, 1), (0, 0, 0, 2), (0, 4, 0, 0, 1), (0, 1000, 7)):
            for chance in CHANCES[1:]:
                part = fraction(chance)
                for many in (1, 2, 8):
                    numbers = [comb(failures + many - 1, failures) * part**many * (1 - part)**failures
                               for failures in range(41)]
                    for most in (0, 1, 40):
                        self.same(waiting_sum(many, chance, claims, most), ratios(mixed(numbers, claims, most)))

    def test_panjer(self):
        for claims in [*SOME, LONG]:
            for chance in CHANCES[1:]:
                for many in (1, 2, 5, 8):
                    part = fraction(chance)
                    failing = 1 - part
                    none = (part / (1 - failing * Fraction(claims[0], sum(claims)))) ** many
                    wanted = panjer(failing, failing * (many - 1), none, claims, 40)
                    self.same(waiting_sum(many, chance, claims, 40), ratios(wanted))
                    self.same(waiting_sum(many, chance, claims, 7), ratios(wanted[:8]))

    def test_from_below(self):
        # With claims of 0 any number of failures may come; those of more than 60 are rare.
        for claims in ((1, 1), (3, 0, 1), (7, 1, 1, 1), (5,)):
            for many, part in ((1, Fraction(1, 2)), (3, Fraction(2, 3))):
                numbers = [comb(failures + many - 1, failures) * part**many * (1 - part)**failures for failures in range(61)]
                rest = 1 - sum(numbers)
                below = mixed(numbers, claims, 12)
                for least, found in zip(below, waiting_sum(many, ratio(part), claims, 12), strict=True):
                    self.assertLessEqual(least, fraction(found))
                    self.assertLessEqual(fraction(found), least + rest)
                self.assertLess(rest, Fraction(1, 10**9))

    def test_edges(self):
        self.same(waiting_sum(8, (1, 1), LONG, 3), ((1, 1), (0, 1), (0, 1), (0, 1)))
        self.same(waiting_sum(3, (1, 1000), (9,), 2), ((1, 1), (0, 1), (0, 1)))
        self.same(waiting_sum(1, (1, 2), (1, 1), 1), ((2, 3), (2, 9)))
        self.same(waiting_sum(2, (1, 2), (0, 0, 1), 4), ((1, 4), (0, 1), (1, 4), (0, 1), (3, 16)))
        self.assertEqual(len(waiting_sum(8, (1, 1000), LONG, 40)), 41)


class ErrorsTest(Checks, unittest.TestCase):
    good = (1, 2)

    def test_wrong_claims(self):
        self.refuses_claims(mean_claim, [self.good], 0)
        self.refuses_claims(summed, [self.good, 1], 0)
        self.refuses_claims(random_sum, [self.good, self.good], 0, most=9)
        self.refuses_claims(random_sum, [self.good, self.good], 1)
        self.refuses_claims(binomial_sum, [1, (1, 2), self.good, 1], 2)
        self.refuses_claims(waiting_sum, [1, (1, 2), self.good, 1], 2)
        for claims in ((), (0,), (1, 0), (1,) * 14, (1001,), (-1, 1), (0, -1), [1], (True,), (1, True), (1, (1,))):
            self.assertFalse(is_claims(claims))
            self.is_told(BadClaims, mean_claim, claims)

    def test_lengths(self):
        self.same(mean_claim((1,) * 13), (6, 1))
        self.is_told(BadClaims, mean_claim, (1,) * 14)
        self.assertEqual(len(random_sum((1,) * 9, (1,) * 13)), 97)
        self.is_told(BadClaims, random_sum, (1,) * 10, (1,))
        self.is_told(BadClaims, random_sum, (1,), (1,) * 14)

    def test_wrong_times_and_totals(self):
        self.refuses(summed, [self.good, 1], 1, BadTime, is_time(0, 8))
        for function in (binomial_sum, waiting_sum):
            self.refuses(function, [1, (1, 2), self.good, 1], 0, BadTime, is_time(1, 8))
            self.refuses(function, [1, (1, 2), self.good, 1], 3, BadTime, is_time(0, 40))
            for many in (0, 9, -1, True):
                self.is_told(BadTime, function, many, (1, 2), self.good, 1)
            for most in (-1, 41, False):
                self.is_told(BadTime, function, 1, (1, 2), self.good, most)
        for times in (-1, 9, True):
            self.is_told(BadTime, summed, self.good, times)

    def test_wrong_chances(self):
        self.refuses(binomial_sum, [1, (1, 2), self.good, 1], 1, BadChance, is_chance)
        self.refuses(waiting_sum, [1, (1, 2), self.good, 1], 1, BadChance, lambda value: is_chance(value) and value[0] > 0)
        for chance in ((1, 1001), (1001, 1000), (-1, 1000), (2, 1), (2, 4), [1, 2]):
            self.is_told(BadChance, binomial_sum, 1, chance, self.good, 1)
            self.is_told(BadChance, waiting_sum, 1, chance, self.good, 1)
        self.is_told(BadChance, waiting_sum, 1, (0, 1), self.good, 1)

    def test_leftmost_error(self):
        self.first_error_wins(summed, [self.good, 1], [((), BadClaims), (9, BadTime)])
        self.first_error_wins(random_sum, [self.good, self.good], [((), BadClaims), (None, BadClaims)])
        for function, chance in ((binomial_sum, (3, 2)), (waiting_sum, (0, 1))):
            self.first_error_wins(function, [1, (1, 2), self.good, 1],
                                  [(0, BadTime), (chance, BadChance), ((1, 0), BadClaims), (41, BadTime)])

    def test_arguments_stay(self):
        self.keeps_arguments(mean_claim, self.good)
        self.keeps_arguments(summed, self.good, 3)
        self.keeps_arguments(random_sum, self.good, (0, 1, 1))
        self.keeps_arguments(binomial_sum, 2, (1, 3), self.good, 5)
        self.keeps_arguments(waiting_sum, 2, (1, 3), self.good, 5)


if __name__ == "__main__":
    unittest.main()
