"""Point 15: companions."""

import itertools
import random
import unittest
from fractions import Fraction
from math import comb

from actuarium.companions import alive_counts, dies_first, joint_sums, left_alone, value_of_counts
from actuarium.errors import BadAge, BadAmounts, BadCompanions, BadRate, BadTime
from tests.support import (
    ANYTHING, Checks, fraction, grown, is_int, is_lives, is_rate, is_time, places, ratio, ratios, replaced, short)

LONGEST = tuple(range(200, 161, -1)) + (0,)
LIVES = [(1, 0), (7, 0), (2, 1, 0), (4, 2, 1, 0), (5, 5, 5, 1, 0), (9, 9, 0), (12, 9, 7, 2, 2, 0)]
RATES = [(0, 1), (1, 10), (1, 1), (-1, 4)]
PAIR = (((2, 1, 0), 0), ((4, 2, 1, 0), 1))


def span(companion):
    return len(companion[0]) - 1 - companion[1]


def deaths(companion):
    """List the pairs of the year of death, from 0 on, and its chance, for all years in which somebody dies."""
    lives, age = companion
    counted = [(year, Fraction(lives[age + year] - lives[age + year + 1], lives[age])) for year in range(span(companion))]
    return [(year, chance) for year, chance in counted if chance]


def all_deaths(companions):
    """Go through all rows of years of death of the companions, each one with its chance."""
    for row in itertools.product(*map(deaths, companions)):
        chance = Fraction(1)
        for _, part in row:
            chance *= part
        yield [year for year, _ in row], chance


def living_part(companion, years):
    lives, age = companion
    return Fraction(lives[age + years], lives[age]) if age + years < len(lives) else Fraction(0)


def sets_of_living(companions, years):
    """Go through all sets of those who live, as tuples of booleans, each one with its chance."""
    parts = [living_part(companion, years) for companion in companions]
    for alive in itertools.product((False, True), repeat=len(companions)):
        chance = Fraction(1)
        for lives, part in zip(alive, parts):
            chance *= part if lives else 1 - part
        yield alive, chance


def some_companions(seed=61):
    chance = random.Random(seed)
    yield PAIR
    for many in (1, 2, 3, 4, 5):
        for _ in range(6):
            tables = [chance.choice(LIVES) for _ in range(many)]
            yield tuple((lives, chance.randrange(len(lives) - 1)) for lives in tables)
    yield (((4, 2, 1, 0), 0),) * 2
    yield (((4, 2, 1, 0), 0),) * 5
    yield ((LONGEST, 0), ((1, 0), 0))
    yield ((LONGEST, 38),)
    yield ((LONGEST, 20), ((4, 2, 1, 0), 0))


class CountsTest(Checks, unittest.TestCase):
    def test_examples(self):
        found = [alive_counts(PAIR, 1), joint_sums(PAIR, 1), dies_first(PAIR, 0), left_alone(PAIR, (0, 1), 0),
                 value_of_counts(PAIR, (0, 1), (0, 1, 0))]
        self.same(found, [((1, 4), (1, 2), (1, 4)), ((1, 1), (1, 1), (1, 4)), (1, 4), (1, 4), (1, 2)])

    def test_sets_of_those_who_live(self):
        for companions in some_companions():
            many = len(companions)
            for years in (0, 1, 2, 3, 5, 38, 39, 60):
                sets = list(sets_of_living(companions, years))
                wanted = [sum(chance for alive, chance in sets if sum(alive) == count) for count in range(many + 1)]
                self.same(alive_counts(companions, years), ratios(wanted))
                sums = []
                for size in range(many + 1):
                    choices = itertools.combinations(range(many), size)
                    sums.append(sum(chance for choice in choices for alive, chance in sets if all(alive[at] for at in choice)))
                self.same(joint_sums(companions, years), ratios(sums))

    def test_counts_by_years_of_death(self):
        for companions in some_companions(62):
            rows = list(all_deaths(companions))
            self.assertEqual(sum(chance for _, chance in rows), 1)
            for years in (0, 1, 2, 4):
                wanted = [Fraction(0)] * (len(companions) + 1)
                for row, chance in rows:
                    wanted[sum(year >= years for year in row)] += chance
                self.same(alive_counts(companions, years), ratios(wanted))

    def test_beyond_all_tables(self):
        for companions in some_companions(63):
            many = len(companions)
            for years in (max(map(span, companions)), 39, 40, 60):
                self.same(alive_counts(companions, years), ((1, 1),) + ((0, 1),) * many)
                self.same(joint_sums(companions, years), ((1, 1),) + ((0, 1),) * many)
            self.same(alive_counts(companions, 0), ((0, 1),) * many + ((1, 1),))
            self.same(joint_sums(companions, 0), tuple((comb(many, size), 1) for size in range(many + 1)))

    def test_schuette_nesbitt(self):
        chance = random.Random(64)
        for companions in some_companions(65):
            numbers = [chance.randint(-9, 9) for _ in range(len(companions) + 1)]
            differences, row = [], numbers
            while row:
                differences.append(row[0])
                row = [after - before for before, after in zip(row, row[1:])]
            for years in (0, 1, 2, 3, 7):
                expected = sum(number * fraction(part) for number, part in zip(numbers, alive_counts(companions, years)))
                self.assertEqual(expected, sum(difference * fraction(part) for difference, part
                                               in zip(differences, joint_sums(companions, years))))


class ValuesTest(Checks, unittest.TestCase):
    def test_by_years_of_death(self):
        chance = random.Random(66)
        for companions in some_companions(67):
            rows = list(all_deaths(companions))
            times = range(max(map(span, companions)))
            for rate in RATES:
                amounts = tuple(chance.choice((-1000, 1000, 0, 7, -3)) for _ in range(len(companions) + 1))
                value = Fraction(0)
                for row, part in rows:
                    for time in times:
                        value += part * grown(amounts[sum(year >= time for year in row)], rate, -time)
                self.same(value_of_counts(companions, rate, amounts), ratio(value))

    def test_amounts_for_nobody(self):
        # They are paid as long as somebody may live: at the times 0, 1 and 2 the first one lives with 1, 1/2 and 1/4.
        pair = (((4, 2, 1, 0), 0), ((1, 0), 0))
        self.same(value_of_counts(pair, (0, 1), (1, 0, 0)), (5, 4))
        self.same(value_of_counts(pair, (0, 1), (1, 1, 1)), (3, 1))
        self.same(value_of_counts(pair, (1, 1), (1, 1, 1)), (7, 4))
        self.same(value_of_counts((((1, 0), 0),), (0, 1), (1000, 0)), (0, 1))
        self.same(value_of_counts((((1, 0), 0),), (0, 1), (1000, -1000)), (-1000, 1))
        self.same(value_of_counts((((4, 2, 1, 0), 0),), (0, 1), (1000, 0)), (1250, 1))

    def test_left_alone(self):
        for companions in some_companions(68):
            rows = list(all_deaths(companions))
            for index in range(len(companions)):
                for rate in RATES:
                    value = Fraction(0)
                    for row, chance in rows:
                        others = row[:index] + row[index + 1:]
                        value += sum(chance * grown(1, rate, -time) for time in range(row[index] + 1)
                                     if all(year < time for year in others))
                    self.same(left_alone(companions, rate, index), ratio(value))

    def test_one_companion_is_always_alone(self):
        one = (((4, 2, 1, 0), 0),)
        self.same(left_alone(one, (0, 1), 0), (7, 4))
        self.same(left_alone(one, (1, 1), 0), (21, 16))
        self.same(dies_first(one, 0), (1, 1))
        self.same(left_alone((*one, ((7, 7, 7, 7, 0), 0)), (0, 1), 0), (0, 1))


class FirstTest(Checks, unittest.TestCase):
    def test_by_years_of_death(self):
        for companions in some_companions(69):
            rows = list(all_deaths(companions))
            for index in range(len(companions)):
                first = sum(chance for row, chance in rows
                            if all(row[index] < year for at, year in enumerate(row) if at != index))
                self.same(dies_first(companions, index), ratio(first))

    def test_ties(self):
        same = (((1, 0), 0),) * 3
        self.same([dies_first(same, index) for index in range(3)], [(0, 1)] * 3)
        # Two lives each: both die in one year with 1/2, and each one is the first with 1/4.
        twice = (((2, 1, 0), 0),) * 2
        self.same([dies_first(twice, index) for index in range(2)], [(1, 4)] * 2)
        unlike = (((1, 0), 0), ((3, 3, 0), 0))
        self.same([dies_first(unlike, index) for index in range(2)], [(1, 1), (0, 1)])


class ErrorsTest(Checks, unittest.TestCase):
    calls = [(alive_counts, (0,)), (joint_sums, (0,)), (value_of_counts, ((0, 1), (0, 0, 0))), (dies_first, (0,)),
             (left_alone, ((0, 1), 0))]

    def place(self, value):
        """Tell slowly the index of BadCompanions, False if these are companions."""
        if type(value) is not tuple or not 1 <= len(value) <= 5:
            return None
        for index, entry in enumerate(value):
            if type(entry) is not tuple or len(entry) != 2 or not is_lives(entry[0]):
                return index
            if not is_int(entry[1], 0, len(entry[0]) - 2):
                return index
        return False

    def told(self, value):
        place = self.place(value)
        self.assertIsNot(place, False)
        for function, rest in self.calls:
            with self.subTest(function=function.__name__, value=short(value)):
                self.is_told(BadCompanions, function, value, *rest, index=place)
                self.is_told(BadCompanions, function, value, *(None for _ in rest), index=place)

    def test_values_of_every_kind_in_every_part(self):
        for value in ANYTHING:
            self.told(value)
            for path in places(PAIR):
                if self.place(replaced(PAIR, path, value)) is not False:
                    self.told(replaced(PAIR, path, value))
        for bad in (PAIR[:0], PAIR * 3, list(PAIR), [PAIR], dict(PAIR), PAIR[0], (list(PAIR[0]),), ((*PAIR[0], 0),),
                    (PAIR[0][:1],), (PAIR[0], PAIR[1], (PAIR[1][0], 3)), (PAIR[0], ((4, 2, 1, 0), -1)), (((1, 0), True),)):
            self.told(bad)

    def test_index_of_the_first_bad_one(self):
        for many in range(1, 6):
            for at in range(many):
                value = PAIR[:1] * at + (((2, 1, 0), 2),) + (None,) * (many - at - 1)
                self.is_told(BadCompanions, dies_first, value, 0, index=at)
        self.is_told(BadCompanions, dies_first, (None,) * 6, 0, index=None)
        self.assertEqual(len(alive_counts(PAIR[:1] * 5, 0)), 6)

    def test_wrong_years(self):
        for function in (alive_counts, joint_sums):
            self.refuses(function, [PAIR, 0], 1, BadTime, is_time(0, 60))

    def test_wrong_rates_amounts_and_indexes(self):
        amounts = (0, 0, 0)
        self.refuses(value_of_counts, [PAIR, (0, 1), amounts], 1, BadRate, is_rate)
        self.refuses(left_alone, [PAIR, (0, 1), 0], 1, BadRate, is_rate)
        self.refuses(value_of_counts, [PAIR, (0, 1), amounts], 2, BadAmounts, self.are_amounts)
        for path in places(amounts):
            for value in ANYTHING:
                if not self.are_amounts(replaced(amounts, path, value)):
                    self.is_told(BadAmounts, value_of_counts, PAIR, (0, 1), replaced(amounts, path, value))
        for bad in ((0, 0), (0, 0, 0, 0), (0, 0, 1001), (-1001, 0, 0), [0, 0, 0], (0, 0, False), ()):
            self.is_told(BadAmounts, value_of_counts, PAIR, (0, 1), bad)
        self.same(value_of_counts(PAIR, (0, 1), (0, -1000, 1000)), (750, 1))
        for companions in (PAIR, PAIR[:1], PAIR + PAIR):
            many = len(companions)
            self.refuses(dies_first, [companions, 0], 1, BadAge, is_time(0, many - 1))
            self.refuses(left_alone, [companions, (0, 1), 0], 2, BadAge, is_time(0, many - 1))
            for index in (-1, many, True, False):
                self.is_told(BadAge, dies_first, companions, index)
                self.is_told(BadAge, left_alone, companions, (0, 1), index)

    def are_amounts(self, value):
        return type(value) is tuple and len(value) == 3 and all(is_int(entry, -1000, 1000) for entry in value)

    def test_leftmost_error(self):
        bad = ((PAIR[0], ((2, 1), 0)), BadCompanions)
        self.first_error_wins(alive_counts, [PAIR, 0], [bad, (61, BadTime)])
        self.first_error_wins(joint_sums, [PAIR, 0], [bad, (-1, BadTime)])
        self.first_error_wins(value_of_counts, [PAIR, (0, 1), (0, 0, 0)], [bad, ((-1, 1), BadRate), ((), BadAmounts)])
        self.first_error_wins(dies_first, [PAIR, 0], [bad, (2, BadAge)])
        self.first_error_wins(left_alone, [PAIR, (0, 1), 0], [bad, ((-1, 1), BadRate), (2, BadAge)])

    def test_arguments_stay(self):
        self.keeps_arguments(alive_counts, PAIR, 1)
        self.keeps_arguments(joint_sums, PAIR, 1)
        self.keeps_arguments(value_of_counts, PAIR, (1, 10), (1, 2, 3))
        self.keeps_arguments(dies_first, PAIR, 1)
        self.keeps_arguments(left_alone, PAIR, (1, 10), 1)


if __name__ == "__main__":
    unittest.main()
