"""Points 2 and 3: ratios, interest rates and payments that are certain."""

import random
import unittest

from actuarium.errors import BadPayments, BadRate, BadTime, TooMany
from actuarium.payments import level, shifted, value_at
from tests.support import Checks, is_payments, is_rate, is_time, ratio, value_of

RATES = [(0, 1), (1, 10), (-1, 10), (1, 1), (1000, 1), (-999, 1000), (-1, 2), (999, 1000), (1, 1000), (-1, 1000)]


class ValueTest(Checks, unittest.TestCase):
    def test_examples(self):
        found = [value_at((0, 110), (1, 10), 0), value_at((1, 1), (1, 1), 3), shifted(level(2), 1)]
        self.same(found, [(100, 1), (12, 1), (0, 1, 1)])

    def test_payments_moved_one_by_one(self):
        chance = random.Random(3)
        for rate in RATES:
            for many in (0, 1, 2, 5, 40):
                payments = tuple(chance.randint(-10**6, 10**6) for _ in range(many))
                for time in (0, 1, many, 39, 60):
                    self.same(value_at(payments, rate, time), ratio(value_of(payments, rate, time)))

    def test_all_small_rates(self):
        for top in range(-9, 10):
            for bottom in range(1, 10):
                if is_rate((top, bottom)):
                    self.same(value_at((3, -2, 5), (top, bottom), 1), ratio(value_of((3, -2, 5), (top, bottom), 1)))

    def test_edges(self):
        self.same(value_at((), (1, 10), 60), (0, 1))
        self.same(value_at((0,) * 40, (-999, 1000), 60), (0, 1))
        self.same(value_at((10**6,) * 40, (0, 1), 60), (40 * 10**6, 1))
        self.same(value_at((-10**6,) * 40, (0, 1), 0), (-40 * 10**6, 1))
        self.same(value_at((1,), (-999, 1000), 60), (1, 1000**60))
        self.same(value_at((0, 1), (-999, 1000), 0), (1000, 1))
        self.same(value_at((1,), (1000, 1), 60), (1001**60, 1))
        self.same(value_at((-1, 1), (0, 1), 30), (0, 1))

    def test_wrong_values(self):
        good = [(1, 2), (1, 10), 3]
        self.refuses(value_at, good, 0, BadPayments, is_payments)
        self.refuses(value_at, good, 1, BadRate, is_rate)
        self.refuses(value_at, good, 2, BadTime, is_time(0, 60))

    def test_limits_of_rates(self):
        for rate in [(1000, 1), (1, 1000), (-999, 1000), (1000, 999), (0, 1)]:
            value_at((1,), rate, 1)
        for rate in [(1001, 1), (1, 1001), (-1, 1), (-1000, 1000), (-1001, 1000), (1001, 1000), (0, 2), (2, 2), (1, -1)]:
            self.is_told(BadRate, value_at, (1,), rate, 1)

    def test_limits_of_times(self):
        for time in (-1, 61, True, False):
            self.is_told(BadTime, value_at, (1,), (0, 1), time)

    def test_leftmost_error(self):
        self.first_error_wins(value_at, [(1,), (0, 1), 0], [([1], BadPayments), ((2, 4), BadRate), (61, BadTime)])

    def test_arguments_stay(self):
        self.keeps_arguments(value_at, (1, 2, 3), (1, 10), 5)
        self.keeps_arguments(shifted, (1, 2, 3), 5)


class ShiftTest(Checks, unittest.TestCase):
    def test_shifted(self):
        for many in range(0, 41):
            payments = tuple(range(1, many + 1))
            for years in range(0, 41 - many):
                self.same(shifted(payments, years), tuple([0] * years + list(payments)))

    def test_value_of_shifted(self):
        self.same(value_at(shifted((5, 7), 4), (1, 10), 4), value_at((5, 7), (1, 10), 0))

    def test_too_many(self):
        self.is_told(TooMany, shifted, (1,), 40, most=40)
        self.is_told(TooMany, shifted, (0,) * 40, 1, most=40)
        self.is_told(TooMany, shifted, (0,) * 21, 20, most=40)
        self.is_told(TooMany, shifted, (0,) * 40, 40, most=40)
        self.is_told(BadTime, shifted, (0,) * 40, 41)
        self.is_told(BadPayments, shifted, (0,) * 41, 40)
        self.same(shifted((0,) * 20, 20), (0,) * 40)
        self.same(shifted((), 40), (0,) * 40)
        self.same(shifted((4,) * 40, 0), (4,) * 40)

    def test_wrong_values(self):
        self.refuses(shifted, [(1, 2), 3], 0, BadPayments, is_payments)
        self.refuses(shifted, [(1, 2), 3], 1, BadTime, is_time(0, 40))
        self.first_error_wins(shifted, [(1,), 0], [((1,) * 41, BadPayments), (41, BadTime)])

    def test_level(self):
        for many in range(41):
            self.same(level(many), tuple([1 for _ in range(many)]))
        self.refuses(level, [1], 0, BadTime, is_time(0, 40))


if __name__ == "__main__":
    unittest.main()
