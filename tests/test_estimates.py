"""Point 25: records, lives and smoothed rates."""

import itertools
import random
import unittest
from fractions import Fraction
from math import comb

from actuarium.errors import BadAmount, BadAmounts, BadRates, BadRecords, BadTime
from actuarium.estimates import product_limit, smoothed
from tests.support import (
    ANYTHING, Checks, bad_thing, fraction, is_int, is_ratio, is_row, is_time, ratio, ratios, replaced)

RECORDS = ((0, 2, 1), (0, 3, 0), (1, 3, 1))
GOOD = (((0, 1), (1, 1), (-1, 2)), (1, 2, 3), 1, 1)


def is_record(value):
    return is_row(value, 3, 0, 40) and value[0] < value[1] and value[2] in (0, 1)


def bad_index(value):
    """The index of a value that is no records, False for records."""
    return bad_thing(value, 1, 12, is_record)


def limit_by_ages(records):
    """The parts that live on, age by age, from lists of those who are watched and of those who die."""
    found, left = [], Fraction(1)
    for age in range(41):
        watched = [record for record in records if age in range(record[0] + 1, record[1] + 1)]
        dying = [record for record in watched if record[1] == age and record[2] == 1]
        if dying:
            left *= 1 - Fraction(len(dying), len(watched))
            found.append((age, ratio(left)))
    return tuple(found)


def limit_by_handing_on(records):
    """The same if all are watched from age 0 on: who is lost hands their part on to all who are watched for longer."""
    ends = sorted((end, 1 - died) for _, end, died in records)
    parts = [Fraction(1, len(ends))] * len(ends)
    left, found = Fraction(1), {}
    for at, (age, lost) in enumerate(ends):
        if lost:
            later = [other for other in range(len(ends)) if ends[other][0] > age]
            for other in later:
                parts[other] += parts[at] / len(later)
        else:
            left -= parts[at]
            found[age] = ratio(left)
    return tuple(found.items())


def some_records(chance, many, latest, begun=True):
    found = []
    for _ in range(many):
        begin = chance.randint(0, latest - 1) if begun else 0
        found.append((begin, chance.randint(begin + 1, latest), chance.randint(0, 1)))
    return tuple(found)


def are_rates(value):
    return bad_rate(value) is False


def bad_rate(value):
    def is_good(thing):
        return is_ratio(thing) and abs(thing[0]) <= 1000 and thing[1] <= 1000

    return bad_thing(value, 2, 8, is_good)


def misfit(values, rates, weights, order, strength):
    """The weighted squares of what the values miss, plus the strength times the squares of their differences."""
    found = sum(weight * (value - fraction(rate)) ** 2 for value, rate, weight in zip(values, rates, weights))
    for at in range(len(values) - order):
        signs = [(-1) ** (order - step) * comb(order, step) for step in range(order + 1)]
        found += strength * sum(sign * value for sign, value in zip(signs, values[at:])) ** 2
    return found


class LimitTest(Checks, unittest.TestCase):
    def test_examples(self):
        found = [product_limit(RECORDS), smoothed(((0, 1), (1, 1)), (1, 1), 1, 1)]
        self.same(found, [((2, (2, 3)), (3, (1, 3))), ((1, 3), (2, 3))])

    def test_age_by_age(self):
        chance = random.Random(251)
        for many in range(1, 13):
            for latest in (1, 2, 4, 9, 40):
                for _ in range(6):
                    records = some_records(chance, many, latest)
                    self.same(product_limit(records), limit_by_ages(records))

    def test_those_who_are_lost_hand_their_part_on(self):
        chance = random.Random(252)
        for many in range(1, 13):
            for latest in (1, 3, 8, 40):
                for _ in range(5):
                    records = some_records(chance, many, latest, begun=False)
                    self.same(product_limit(records), limit_by_handing_on(records))

    def test_nobody_is_lost(self):
        # Then the part of those who live on is counted.
        records = tuple((0, end, 1) for end in (3, 5, 5, 7, 40, 3, 3, 9))
        wanted = [(age, ratio(Fraction(sum(end > age for _, end, _ in records), 8))) for age in (3, 5, 7, 9, 40)]
        self.same(product_limit(records), tuple(wanted))

    def test_edges(self):
        self.same(product_limit(((0, 1, 1),)), ((1, (0, 1)),))
        self.same(product_limit(((0, 1, 0),)), ())
        self.same(product_limit(((0, 40, 0),) * 12), ())
        self.same(product_limit(((39, 40, 1),) * 12), ((40, (0, 1)),))
        # Whose watch begins at the age of a death is not at risk, whose watch ends there is.
        self.same(product_limit(((0, 2, 1), (2, 5, 0))), ((2, (0, 1)),))
        self.same(product_limit(((0, 2, 1), (1, 5, 0))), ((2, (1, 2)),))
        self.same(product_limit(((0, 2, 1), (0, 2, 0))), ((2, (1, 2)),))
        self.same(product_limit(((0, 2, 1), (0, 1, 0))), ((2, (0, 1)),))
        # The last one at risk dies, and others come later: 0 stays.
        self.same(product_limit(((0, 2, 1), (2, 5, 1), (2, 6, 0))), ((2, (0, 1)), (5, (0, 1))))
        # By hand: of three at risk one dies at 3; at 6 two of the three who are at risk then.
        records = ((0, 3, 1), (1, 6, 1), (2, 6, 1), (3, 8, 0))
        self.same(product_limit(records), ((3, (2, 3)), (6, (2, 9))))
        self.same(product_limit(records[::-1]), ((3, (2, 3)), (6, (2, 9))))


class SmoothTest(Checks, unittest.TestCase):
    def some_cases(self):
        chance = random.Random(253)
        for many in range(2, 9):
            for order in range(1, min(3, many - 1) + 1):
                for strength in (0, 1, 7, 1000):
                    rates = ratios(Fraction(chance.randint(-1000, 1000), chance.choice((1, 3, 10, 1000))) for _ in range(many))
                    weights = tuple(chance.choice((1, 2, 30, 1000)) for _ in range(many))
                    yield rates, weights, order, strength

    def test_no_small_change_makes_the_sum_smaller(self):
        for rates, weights, order, strength in self.some_cases():
            found = smoothed(rates, weights, order, strength)
            self.assertEqual([type(found), len(found)], [tuple, len(rates)])
            self.assertTrue(all(map(is_ratio, found)))
            values = list(map(fraction, found))
            least = misfit(values, rates, weights, order, strength)
            for at in range(len(values)):
                for change in (Fraction(1, 10**6), Fraction(1)):
                    more, less = values[:], values[:]
                    more[at] += change
                    less[at] -= change
                    above, below = [misfit(changed, rates, weights, order, strength) for changed in (more, less)]
                    self.assertGreater(above, least)
                    # The sum is even around its least value, exactly.
                    self.assertEqual(above, below)

    def test_by_hand(self):
        # Between 0 and 1 with the weights 1 and 2, strength 2: v + 2 (v - w) = 0 and 2 (w - 1) + 2 (w - v) = 0.
        self.same(smoothed(((0, 1), (1, 1)), (1, 2), 1, 2), ((1, 2), (3, 4)))
        # The second differences of 0, 1, 0: only the sum v0 - 2 v1 + v2 counts, of which -2 becomes -2 / 7.
        self.same(smoothed(((0, 1), (1, 1), (0, 1)), (1, 1, 1), 2, 1), ((2, 7), (3, 7), (2, 7)))

    def test_edges(self):
        for rates, weights, order, _ in self.some_cases():
            self.same(smoothed(rates, weights, order, 0), rates)
        # What has no differences of an order stays as it is: even rows, straight ones and parabolas.
        self.same(smoothed(((-7, 3),) * 8, (1, 5, 1, 1000, 2, 3, 4, 9), 1, 1000), ((-7, 3),) * 8)
        line = ratios(Fraction(3 * at - 7, 10) for at in range(8))
        self.same(smoothed(line, (1, 5, 1, 1000, 2, 3, 4, 9), 2, 1000), line)
        bow = ratios(Fraction(at * at - 7, 1000) for at in range(8))
        self.same(smoothed(bow, (1, 5, 1, 1000, 2, 3, 4, 9), 3, 1000), bow)
        self.assertNotEqual(smoothed(bow, (1,) * 8, 2, 1), bow)
        self.same(smoothed(((1000, 1), (-1000, 1)), (1, 1), 1, 1000), ((1000, 2001), (-1000, 2001)))
        self.same(smoothed(((1, 1000), (-1, 1000)), (1000, 1000), 1, 1000), ((1, 3000), (-1, 3000)))


class ErrorsTest(Checks, unittest.TestCase):
    def test_wrong_records(self):
        more = [
            ((0, 0, 1),), ((3, 2, 1),), ((0, 41, 1),), ((-1, 2, 1),), ((0, 2, 2),), ((0, 2, -1),), ((0, 2, True),), ((0, 2, False),),
            ((False, 2, 1),), ((0, True, 1),), ((0, 2),), ((0, 2, 1, 1),), ([0, 2, 1],), ((0, (2, 1), 1),), RECORDS * 5, (RECORDS,),
            (*RECORDS, (40, 40, 0)),
        ]
        for value in more:
            self.assertIsNot(bad_index(value), False)
        self.refuses_things([(product_limit, ())], RECORDS, BadRecords, bad_index, more)

    def test_index_of_the_first_bad_thing(self):
        for at in range(12):
            self.is_told(BadRecords, product_limit, RECORDS[:1] * at + ((2, 2, 0),) + (None,) * (11 - at), index=at)
        for at in range(8):
            self.is_told(BadRates, smoothed, ((0, 1),) * at + ((2, 4),) + (None,) * (7 - at), None, None, None, index=at)
        self.is_told(BadRecords, product_limit, (None,) * 13, index=None)
        self.is_told(BadRates, smoothed, (None,) * 9, (), 0, 0, index=None)
        self.is_told(BadRates, smoothed, ((0, 1),), (1,), 1, 1, index=None)

    def test_wrong_rates(self):
        more = [((0, 1), (1001, 1)), ((0, 1), (-1001, 1)), ((0, 1), (1, 1001)), ((1, 1), (2, 2)), ((1, 1), (1, -1)), ((1, 1), (True, 1)),
                ((1, 1), [1, 1]), ((1, 1), 1), ((0, 2), (1, 1)), ((0, 1),) * 9, ((0, 1), (-1000, 1001), (0, 1))]
        for value in more:
            self.assertIsNot(bad_rate(value), False)
        self.refuses_things([(smoothed, GOOD[1:])], GOOD[0], BadRates, bad_rate, more)
        for rates in (((1000, 1), (-1000, 1), (-1, 2)), ((1, 1000), (-999, 1000), (-1, 1))):
            self.assertEqual(len(smoothed(rates, *GOOD[1:])), 3)

    def test_wrong_weights(self):
        self.refuses(smoothed, GOOD, 1, BadAmounts, lambda value: is_row(value, 3, 1, 1000))
        for at, value in itertools.product(range(3), ANYTHING):
            if not is_int(value, 1, 1000):
                self.is_told(BadAmounts, smoothed, GOOD[0], replaced(GOOD[1], (at,), value), 1, 1)
        for bad in ((1, 1), (1, 1, 1, 1), (1, 0, 1), (1, 1001, 1), (1, -1, 1), (1, True, 1), [1, 1, 1]):
            self.is_told(BadAmounts, smoothed, GOOD[0], bad, 1, 1)

    def test_wrong_orders_and_strengths(self):
        for many in range(2, 9):
            rates, weights = ((0, 1),) * many, (1,) * many
            self.refuses(smoothed, [rates, weights, 1, 1], 2, BadTime, is_time(1, min(3, many - 1)))
            for order in (0, -1, 4, many, many + 1, True):
                if order != 3 and (order is True or not 1 <= order < min(4, many)):
                    self.is_told(BadTime, smoothed, rates, weights, order, 1)
            self.refuses(smoothed, [rates, weights, 1, 1], 3, BadAmount, is_time(0, 1000))
        for strength in (-1, 1001, True, False, (1, 1)):
            self.is_told(BadAmount, smoothed, *GOOD[:3], strength)
        self.is_told(BadTime, smoothed, GOOD[0], GOOD[1], 3, 1)

    def test_leftmost_error(self):
        self.first_error_wins(smoothed, GOOD, [(((0, 1), None), BadRates), ((), BadAmounts), (0, BadTime), (-1, BadAmount)])
        # Weights are counted by the rates.
        self.is_told(BadRates, smoothed, ((0, 1),), (1,), 1, 1, index=None)
        self.is_told(BadAmounts, smoothed, ((0, 1),) * 2, (1,), 2, 1)

    def test_arguments_stay(self):
        self.keeps_arguments(product_limit, RECORDS)
        self.keeps_arguments(smoothed, *GOOD)


if __name__ == "__main__":
    unittest.main()
