"""Point 6: yields."""

import itertools
import math
import random
import unittest
from fractions import Fraction

from actuarium.errors import BadPayments, BadRate, BadTime, NoYield
from actuarium.payments import value_at
from actuarium.yields import compare_yields, is_plain, yield_count, yield_floor, yields_above
from tests.support import Checks, fraction, is_payments, is_rate, is_time

RATES = [(0, 1), (1, 10), (-1, 10), (1, 2), (-1, 2), (-2, 3), (1, 1), (2, 1), (-999, 1000), (1000, 1), (1, 1000)]


def payments_of(roots, rest=(1,)):
    """Return payments with yields for these values of 1 plus the yield, times further factors."""
    many = list(rest)
    for root in roots:
        root = Fraction(root)
        longer = [root.denominator * factor for factor in many] + [0]
        for at, factor in enumerate(many):
            longer[at + 1] -= root.numerator * factor
        many = longer
    return tuple(many)


def worth(many, growth):
    """Return the value of a polynomial, that of the lowest power first."""
    return sum(factor * growth**power for power, factor in enumerate(many))


def between(many, low, high):
    """Halve a stretch with a change of the sign 200 times."""
    for _ in range(200):
        middle = (low + high) / 2
        if (worth(many, middle) > 0) == (worth(many, high) > 0):
            high = middle
        else:
            low = middle
    return high


def near_roots(many):
    """Return numbers near the roots between 0 and 2000, found between those of the derivative (M. Rolle)."""
    if len(many) < 2:
        return []
    edges = [Fraction(0), *near_roots([power * factor for power, factor in enumerate(many)][1:]), Fraction(2000)]
    stretches = [(low, high) for low, high in zip(edges, edges[1:]) if worth(many, low) * worth(many, high) < 0]
    return [between(many, low, high) for low, high in stretches]


class KnownRootsTest(Checks, unittest.TestCase):
    def test_examples(self):
        found = [yield_floor((-100, 0, 121), 3), yield_floor((-4, 1), 1), yield_count((-100, 230, -132)),
                 yields_above((-100, 230, -132), (1, 10))]
        self.same(found, [100, -8, 2, 1])

    def counts(self, roots, payments):
        kept = {Fraction(root) for root in roots if root > 0}
        self.same(yield_count(payments), len(kept))
        for rate in RATES + [(int(100 * root) - 100, 100) for root in kept if is_rate((int(100 * root) - 100, 100))]:
            above = sum(1 for root in kept if root - 1 > fraction(rate))
            self.same(yields_above(payments, rate), above)
        if len(kept) == 1:
            only = min(kept)
            for places in range(9):
                self.same(yield_floor(payments, places), math.floor((only - 1) * 10**places))
        else:
            self.is_told(NoYield, yield_floor, payments, 3)
            self.is_told(NoYield, compare_yields, payments, (-1, 1))
            self.is_told(NoYield, compare_yields, (-1, 1), payments)

    def test_products_with_known_roots(self):
        choices = [Fraction(1), Fraction(11, 10), Fraction(1, 2), Fraction(3), Fraction(9, 10), Fraction(-1), Fraction(-2)]
        for many in range(4):
            for roots in itertools.combinations_with_replacement(choices, many):
                for rest in ((1,), (-1,), (1, 0, 1), (2, 1, 3)):
                    self.counts(roots, payments_of(roots, rest))

    def test_zeros_at_both_ends(self):
        for roots in ((2,), (2, 2), (1, 3), (Fraction(1, 2),), (), (-1,), (5, 5, 5)):
            for before, behind in itertools.product((0, 1, 4), repeat=2):
                self.counts(roots, (0,) * before + payments_of(roots) + (0,) * behind)

    def test_roots_are_roots(self):
        for root in (Fraction(3, 2), Fraction(1, 3), Fraction(7)):
            payments = payments_of([root, 2])
            top, bottom = (root - 1).numerator, (root - 1).denominator
            self.same(value_at(payments, (top, bottom), 0), (0, 1))

    def test_without_any_yield(self):
        for payments in ((1,), (-5,), (1, 1), (0, 7, 0), (1, 0, 1), (3, -1, 4), (1,) * 40, (0,) * 39 + (1,), (1, -1, 1)):
            self.same(yield_count(payments), 0)
            self.same(yields_above(payments, (-999, 1000)), 0)
            self.is_told(NoYield, yield_floor, payments, 0)

    def test_equal_yield_is_not_above(self):
        self.same(yields_above((-10, 11), (1, 10)), 0)
        self.same(yields_above((-10, 11), (99, 1000)), 1)
        self.same(yields_above(payments_of([Fraction(11, 10)] * 3), (1, 10)), 0)
        self.same(yields_above(payments_of([Fraction(11, 10)] * 2 + [2] * 3), (1, 10)), 1)
        self.same(yields_above((1, -2, 1), (0, 1)), 0)
        self.same(yields_above((1, -2, 1), (-1, 1000)), 1)

    def test_roots_between_those_of_the_derivative(self):
        chance = random.Random(8)
        counts = []
        for _ in range(60):
            # With such numbers no root of the derivative happens to be a root.
            payments = tuple(chance.choice((-1, 1)) * chance.randint(1, 999) for _ in range(chance.randint(2, 6)))
            roots = near_roots([Fraction(entry) for entry in reversed(payments)])
            self.same(yield_count(payments), len(roots))
            counts.append(len(roots))
            for rate in ((0, 1), (1, 2), (-1, 3)):
                self.same(yields_above(payments, rate), sum(1 for root in roots if root > 1 + fraction(rate)))
            if len(roots) == 1:
                self.same(yield_floor(payments, 8), math.floor((roots[0] - 1) * 10**8))
        self.assertEqual(set(counts) >= {0, 1, 2}, True)

    def test_longest_payments(self):
        roots = [Fraction(9, 8)] * 3
        rest = (1,) + (0,) * 35 + (1,)
        payments = payments_of(roots, rest)
        self.assertEqual(len(payments), 40)
        self.counts(roots, payments)
        alternating = tuple((-1)**time * 10**6 for time in range(40))
        self.same(yield_count(alternating), 1)
        self.same(yield_floor(alternating, 8), 0)


class FloorTest(Checks, unittest.TestCase):
    def test_roots_that_are_no_ratios(self):
        for number in (2, 3, 5, 7, 10**6 - 1):
            for places in range(9):
                scale = 10**places
                self.same(yield_floor((-1, 0, number), places), math.isqrt(number * scale**2) - scale)
                self.same(yield_floor((-number, 0, 1), places), math.isqrt(scale**2 // number) - scale)

    def test_whole_numbers_of_the_last_place(self):
        self.same(yield_floor((-10, 11), 1), 1)
        self.same(yield_floor((-10, 9), 1), -1)
        self.same(yield_floor((-100, 110), 8), 10**7)
        self.same(yield_floor((-1, 1), 8), 0)
        self.same(yield_floor((-10**6, 1), 6), 1 - 10**6)
        self.same(yield_floor((-1, 10**6), 0), 10**6 - 1)
        self.same(yield_floor((-1, 10**6), 8), (10**6 - 1) * 10**8)

    def test_just_below_a_whole_number(self):
        self.same(yield_floor((-500000, 549999), 1), 0)
        self.same(yield_floor((-500000, 550000), 1), 1)
        self.same(yield_floor((-10**6, 899999), 1), -2)
        self.same(yield_floor((-10**6, 900000), 1), -1)
        self.same(yield_floor((-10**6, 999999), 0), -1)
        self.same(yield_floor((-10**6, 999999), 8), -100)
        self.same(yield_floor((-999999, 10**6), 8), 100)
        self.same(yield_floor((-10**6, 1), 0), -1)

    def test_repeated_only_yield(self):
        for times in (1, 2, 3, 4):
            self.same(yield_floor(payments_of([Fraction(6, 5)] * times), 1), 2)
            self.same(yield_floor(payments_of([Fraction(1, 3)] * times), 8), -66666667)

    def test_lies_between_neighbours(self):
        chance = random.Random(6)
        for _ in range(60):
            lent, many = chance.randint(1, 20), chance.randint(1, 20)
            payments = tuple(-chance.randint(1, 10**6) for _ in range(lent))
            payments += tuple(chance.randint(1, 10**6) for _ in range(many))
            for places in (0, 3, 8):
                found = yield_floor(payments, places)
                for step, sign in ((found, 1), (found + 1, -1)):
                    growth = 1 + Fraction(step, 10**places)
                    moved = [entry * growth ** (len(payments) - time) for time, entry in enumerate(payments)]
                    # What is lent comes first: below the yield the payments are worth more than 0.
                    self.assertGreaterEqual(sign * sum(moved), 0 if sign > 0 else Fraction(1, 10**1000))


class CompareTest(Checks, unittest.TestCase):
    def test_known_roots(self):
        roots = [Fraction(1, 3), Fraction(1, 2), Fraction(1), Fraction(11, 10), Fraction(2), Fraction(5)]
        rests = [(1,), (-3,), (1, 0, 1), (1, 1, 7)]
        for one, other in itertools.product(roots, repeat=2):
            wanted = (one > other) - (one < other)
            for first, second in itertools.product(rests, repeat=2):
                for times in (1, 2, 3):
                    found = compare_yields(payments_of([one], first), payments_of([other] * times, second))
                    self.same(found, wanted)
                    found = compare_yields(payments_of([one] * times, first), payments_of([other], second))
                    self.same(found, wanted)

    def test_equal_but_no_multiples(self):
        self.same(compare_yields((-2, 0, 1), (-2, -2, 1, 1)), 0)
        self.same(compare_yields((-1, 0, 2), (0, -1, -1, 2, 2, 0)), 0)
        self.same(compare_yields((-1, 0, 2), (1, 0, -2)), 0)
        self.same(compare_yields((-1, 0, 2), (1, 0, -4, 0, 4)), 0)

    def test_very_near(self):
        near = (-1, 10**6) + (0,) * 37 + (1,)
        self.same(compare_yields((-1, 10**6), near), -1)
        self.same(compare_yields(near, (-1, 10**6)), 1)
        self.same(compare_yields(near, near), 0)
        nearer = (-1, 10**6) + (0,) * 37 + (2,)
        self.same(compare_yields(near, nearer), -1)
        self.same(compare_yields(nearer, near), 1)
        self.same(compare_yields((-999998, 999999), (-999999, 10**6)), 1)
        self.same(compare_yields((-2, 0, 1), (-4, 0, 0, 0, 1)), 0)
        self.same(compare_yields((-1, 0, 2), (-500000, 0, 10**6)), 0)
        self.same(compare_yields((-1, 0, 2), (-499999, 0, 999999)), -1)

    def test_agrees_with_floors(self):
        chance = random.Random(7)
        for _ in range(80):
            both = []
            for _ in range(2):
                lent = tuple(-chance.randint(1, 9) for _ in range(chance.randint(1, 6)))
                both.append(lent + tuple(chance.randint(1, 9) for _ in range(chance.randint(1, 6))))
            one, other = (yield_floor(payments, 8) for payments in both)
            found = compare_yields(*both)
            self.same(compare_yields(both[1], both[0]), -found)
            if one != other:
                self.same(found, 1 if one > other else -1)


class PlainTest(Checks, unittest.TestCase):
    def test_all_short_payments(self):
        for many in range(6):
            for payments in itertools.product((-2, -1, 0, 1, 3), repeat=many):
                sums = [sum(payments[:time + 1]) for time in range(many)]
                signs = "".join("+" if running > 0 else "-" for running in sums if running != 0)
                changes = signs.count("+-") + signs.count("-+")
                self.same(is_plain(payments), changes == 1)
                if changes == 1 and sum(payments) != 0:
                    self.same(yields_above(payments, (0, 1)), 1)

    def test_zeros_between(self):
        self.same(is_plain((-1, 1, 0, 1)), True)
        self.same(is_plain((-1, 1, -1, 2)), True)
        self.same(is_plain((-1, 1, 1, -1, -1)), False)
        self.same(is_plain((-1, 2, -1)), True)
        for payments in ((), (0,), (0,) * 40, (1,), (-1, 1), (5, -5, 5)):
            self.same(is_plain(payments), False)


class ErrorsTest(Checks, unittest.TestCase):
    def test_all_zero(self):
        for payments in ((), (0,), (0, 0), (0,) * 40):
            self.is_told(NoYield, yields_above, payments, (0, 1))
            self.is_told(NoYield, yield_count, payments)
            self.is_told(NoYield, yield_floor, payments, 0)
            self.is_told(NoYield, compare_yields, payments, (-1, 1))
            self.is_told(NoYield, compare_yields, (-1, 1), payments)
            self.is_told(NoYield, compare_yields, payments, payments)

    def test_no_yield_comes_last(self):
        self.is_told(BadRate, yields_above, (0, 0), (2, 2))
        self.is_told(BadTime, yield_floor, (0, 0), 9)
        self.is_told(BadTime, yield_floor, (1, 1), True)
        self.is_told(BadPayments, compare_yields, (0, 0), [0])
        self.is_told(BadPayments, compare_yields, (1, 1), (True,))

    def test_wrong_values(self):
        good = (-1, 2)
        self.refuses(yields_above, [good, (0, 1)], 0, BadPayments, is_payments)
        self.refuses(yields_above, [good, (0, 1)], 1, BadRate, is_rate)
        self.refuses(yield_count, [good], 0, BadPayments, is_payments)
        self.refuses(yield_floor, [good, 0], 0, BadPayments, is_payments)
        self.refuses(yield_floor, [good, 0], 1, BadTime, is_time(0, 8))
        self.refuses(compare_yields, [good, good], 0, BadPayments, is_payments)
        self.refuses(compare_yields, [good, good], 1, BadPayments, is_payments)
        self.refuses(is_plain, [good], 0, BadPayments, is_payments)

    def test_leftmost_error(self):
        bad = ((1,) * 41, BadPayments)
        self.first_error_wins(yields_above, [(-1, 2), (0, 1)], [bad, ((-1, 1), BadRate)])
        self.first_error_wins(yield_floor, [(-1, 2), 0], [bad, (9, BadTime)])
        self.first_error_wins(compare_yields, [(-1, 2), (-1, 2)], [bad, bad])

    def test_arguments_stay(self):
        payments = (0, -3, 1, 4, 0)
        self.keeps_arguments(yields_above, payments, (1, 10))
        self.keeps_arguments(yield_count, payments)
        self.keeps_arguments(yield_floor, payments, 4)
        self.keeps_arguments(compare_yields, payments, (-2, 3))
        self.keeps_arguments(is_plain, payments)


if __name__ == "__main__":
    unittest.main()
