"""Point 4: tables of lives."""

import itertools
import random
import unittest
from fractions import Fraction

from actuarium.errors import BadAge, BadLives, BadRates, BadTime, TooMany
from actuarium.lives import ages_left, dies_in, from_rates, lives_on
from tests.support import ANYTHING, Checks, fraction, is_lives, is_time, people, ratio, short

LONGEST = tuple(range(1000, 961, -1)) + (0,)
TABLES = [(1, 0), (4, 2, 1, 0), (10, 8, 3, 0), (2, 2, 2, 0), (5, 5, 1, 1, 0), (30, 29, 20, 7, 0), LONGEST]


class LivesTest(Checks, unittest.TestCase):
    def test_examples(self):
        lives = (4, 2, 1, 0)
        found = [lives_on(lives, 0, 2), dies_in(lives, 1, 0), ages_left(lives, 0), from_rates(((1, 2), (1, 1)))]
        self.same(found, [(1, 4), (1, 2), (3, 4), (2, 1, 0)])

    def test_lives_counted_one_by_one(self):
        for lives in TABLES:
            for age in range(len(lives) - 1):
                living = people(lives, age)
                self.same(ages_left(lives, age), ratio(Fraction(sum(living), len(living))))
                for years in range(61):
                    later = sum(1 for completed in living if completed >= years)
                    dying = sum(1 for completed in living if completed == years)
                    self.same(lives_on(lives, age, years), ratio(Fraction(later, len(living))))
                    self.same(dies_in(lives, age, years), ratio(Fraction(dying, len(living))))

    def test_edges(self):
        self.assertEqual(len(LONGEST), 40)
        self.same(ages_left((1, 0), 0), (0, 1))
        self.same(dies_in((1, 0), 0, 0), (1, 1))
        self.same(lives_on((10**6, 1, 0), 0, 1), (1, 10**6))
        self.same(lives_on((3, 2, 0), 1, 60), (0, 1))
        self.same(dies_in((3, 2, 0), 1, 60), (0, 1))
        self.same(dies_in(LONGEST, 38, 0), (1, 1))
        self.same(lives_on((10**6,) * 39 + (0,), 0, 38), (1, 1))

    def test_wrong_lives(self):
        for function, rest in ((lives_on, [0, 0]), (dies_in, [0, 0]), (ages_left, [0])):
            self.refuses(function, [(2, 1, 0), *rest], 0, BadLives, is_lives)
            for lives in [(1,), (0,), (0, 0), (2, 1), (1, 1, 0, 0), (1, 2, 0), (10**6 + 1, 0), (1,) * 40 + (0,)]:
                self.is_told(BadLives, function, lives, *rest)

    def test_wrong_ages_and_years(self):
        lives = (4, 2, 1, 0)
        for function, rest in ((lives_on, [0]), (dies_in, [0]), (ages_left, [])):
            self.refuses(function, [lives, 0, *rest], 1, BadAge, is_time(0, 2))
            self.is_told(BadAge, function, lives, 3, *rest)
            self.is_told(BadAge, function, lives, -1, *rest)
        for function in (lives_on, dies_in):
            self.refuses(function, [lives, 0, 0], 2, BadTime, is_time(0, 60))
            faults = [([2, 1, 0], BadLives), (True, BadAge), (61, BadTime)]
            self.first_error_wins(function, [lives, 0, 0], faults)
        self.first_error_wins(ages_left, [lives, 0], [((4, 2, 1), BadLives), (None, BadAge)])

    def test_arguments_stay(self):
        self.keeps_arguments(lives_on, (4, 2, 1, 0), 1, 1)
        self.keeps_arguments(from_rates, ((1, 2), (0, 1), (1, 1)))


def least_table(rates, most):
    """Try the first entries one by one."""
    for first in range(1, most + 1):
        lives = [Fraction(first)]
        for rate in rates:
            lives.append(lives[-1] * (1 - fraction(rate)))
        if all(living.denominator == 1 for living in lives):
            return tuple(int(living) for living in lives)
    return None


def bad_index(value):
    """Return the field of BadRates for a value, "none" if it is allowed."""
    if type(value) is not tuple or not 1 <= len(value) <= 39:
        return None
    for index, rate in enumerate(value):
        kinds = type(rate) is tuple and len(rate) == 2 and type(rate[0]) is int and type(rate[1]) is int
        if not kinds or not 1 <= rate[1] <= 1000 or not 0 <= rate[0] <= rate[1]:
            return index
        if ratio(Fraction(*rate)) != rate or (rate == (1, 1)) != (index == len(value) - 1):
            return index
    return "none"


class RatesTest(Checks, unittest.TestCase):
    def test_least_first_entry(self):
        parts = [(0, 1), (1, 2), (1, 3), (2, 3), (3, 4), (5, 6)]
        for many in range(4):
            for rates in itertools.product(parts, repeat=many):
                rates = (*rates, (1, 1))
                self.same(from_rates(rates), least_table(rates, 300))

    def test_rates_of_tables(self):
        for lives in TABLES:
            rates = tuple(dies_in(lives, age, 0) for age in range(len(lives) - 1))
            found = from_rates(rates)
            self.assertEqual(tuple(dies_in(found, age, 0) for age in range(len(found) - 1)), rates)
            self.assertEqual(lives[0] % found[0], 0)

    def test_edges(self):
        self.same(from_rates(((1, 1),)), (1, 0))
        self.same(from_rates(((0, 1),) * 38 + ((1, 1),)), (1,) * 39 + (0,))
        self.same(from_rates(((1, 1000), (1, 1))), (1000, 999, 0))
        self.same(from_rates(((999, 1000), (999, 1000), (1, 1))), (10**6, 1000, 1, 0))

    def test_too_many(self):
        last = (1, 1)
        self.is_told(TooMany, from_rates, ((999, 1000), (999, 1000), (1, 2), last), most=10**6)
        self.is_told(TooMany, from_rates, ((1, 997), (1, 991), (1, 7), last), most=10**6)
        self.is_told(TooMany, from_rates, ((1, 1000),) * 38 + (last,), most=10**6)
        self.assertEqual(from_rates(((1, 997), (1, 991), last))[0], 997 * 991)
        self.is_told(BadRates, from_rates, ((1, 1000),) * 38, index=37)
        self.is_told(BadRates, from_rates, ((1, 1000),) * 30 + (None, last), index=30)

    def test_first_entries_around_the_limit(self):
        chance = random.Random(5)
        seen = {True: 0, False: 0}
        for _ in range(300):
            bottoms = [chance.randint(1, 1000) for _ in range(chance.randint(1, 3))]
            rates = tuple(ratio(Fraction(chance.randint(0, bottom - 1), bottom)) for bottom in bottoms) + ((1, 1),)
            first, part = 1, Fraction(1)
            for rate in rates:
                part *= 1 - fraction(rate)
                first *= (first * part).denominator
            seen[first > 10**6] += 1
            if first > 10**6:
                self.is_told(TooMany, from_rates, rates, most=10**6)
            else:
                self.assertEqual(from_rates(rates)[0], first)
        self.assertGreater(min(seen.values()), 30)

    def test_index_of_bad_rates(self):
        half, one = (1, 2), (1, 1)
        cases = [((), None), ([one], None), ((one,) * 40, None), (((0, 1),) * 39 + (one,), None), (None, None),
                 ((one, one), 0), ((half, half), 1), ((half,), 0), ((half, (2, 4), one), 1), ((half, one, one), 1),
                 ((half, (1, 1001), one), 1), ((half, (-1, 2), one), 1), ((half, (3, 2), one), 1), ((5, one), 0),
                 ((half, [1, 2], one), 1), ((half, (True, 2), one), 1), ((half, (1, True)), 1), ((half, (True, 1)), 1),
                 ((half, (1, 1, 1)), 1), ((half, (0, 2), one), 1), ((half, None, 7), 1), ((half, half, True), 2)]
        for rates, index in cases:
            self.is_told(BadRates, from_rates, rates, index=index)

    def test_wrong_values(self):
        for value in ANYTHING + [(value, (1, 1)) for value in ANYTHING] + [((1, 2), value) for value in ANYTHING]:
            index = bad_index(value)
            with self.subTest(value=short(value)):
                if index == "none":
                    from_rates(value)
                else:
                    self.is_told(BadRates, from_rates, value, index=index)


if __name__ == "__main__":
    unittest.main()
