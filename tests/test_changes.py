"""Points 11 and 12: lapses, profits and critical numbers."""

import random
import unittest
from fractions import Fraction

from actuarium.changes import critical, profits, worth_with_lapses
from actuarium.errors import BadAge, BadGiven, BadLapses, BadLives, BadRate
from actuarium.policies import fair_premium, reserves, worth
from tests.support import (
    ANYTHING, GOOD_POLICY, Checks, entry_of, fraction, grown, is_chance, is_lives, is_premium, is_rate, is_ratio, people,
    ratio, ratios, replaced, short, some_policies)

LONGEST = tuple(range(200, 161, -1)) + (0,)
TABLES = [(1, 0), (2, 1, 0), (4, 2, 1, 0), (5, 5, 5, 1, 0), (9, 9, 0), (12, 9, 7, 7, 2, 0), LONGEST]
RATES = [(0, 1), (1, 10), (1, 1), (-1, 4), (37, 1000)]


def part(parts, time):
    return fraction(parts[time]) if time < len(parts) else Fraction(0)


def net(policy, time):
    """The premium of a time less the payment alive."""
    return (fraction(policy[5]) if time < policy[6] else 0) - entry_of(policy[3], time)


def worth_life_by_life(policy, lapses, given):
    """Take the mean over all lives of the table, each of which leaves in parts."""
    lives, age, rate = policy[:3]
    living = people(lives, age)
    worths = {}
    for completed in set(living):
        staying, value = Fraction(1), Fraction(0)
        for time in range(completed + 1):
            if time > 0:
                leaving = staying * part(lapses, time - 1)
                value += grown(leaving * part(given, time - 1), rate, -time)
                staying -= leaving
            value -= grown(staying * net(policy, time), rate, -time)
        worths[completed] = value + grown(staying * entry_of(policy[4], completed), rate, -completed - 1)
    return sum(worths[completed] for completed in living) / len(living)


def dying(lives, age):
    living = people(lives, age)
    return Fraction(living.count(0), len(living))


def every_policy(seed, tables=tuple(TABLES)):
    return some_policies(seed, tables, RATES)


def some_lapses(chance, many):
    bottoms = [chance.choice((1, 2, 3, 10, 1000)) for _ in range(many)]
    return ratios(Fraction(chance.randint(0, bottom), bottom) for bottom in bottoms)


class LapsesTest(Checks, unittest.TestCase):
    def test_by_hand(self):
        # Two lives pay 60 each, one of them dies and gets 100; half of the other one leaves and gets 5, the other half
        # pays 30 and gets 50: -120 + 100 + 5 - 30 + 50 = 5, for two lives.
        policy = ((2, 1, 0), 0, (0, 1), (), (100, 100), (60, 1), 2)
        self.same(worth_with_lapses(policy, ((1, 2),), ((10, 1),)), (5, 2))
        # Of the two lives at age 1 one dies and gets 4 at time 1, worth 2; the other one leaves then and gets 3 instead
        # of the 8 for who lives, worth 3/2: 7/2 for two lives.
        policy = ((4, 2, 1, 0), 1, (1, 1), (0, 8), (4,), (0, 1), 0)
        self.same(worth_with_lapses(policy, ((1, 1),), ((3, 1),)), (7, 4))
        self.same(worth_with_lapses(policy, ((0, 1), (1, 1)), ((3, 1), (5, 1))), (3, 1))

    def test_life_by_life(self):
        chance = random.Random(22)
        for policy in every_policy(21):
            many = len(policy[0]) - 1 - policy[1]
            for size in sorted({0, 1, max(0, many - 1), many, many + 1, 40}):
                if size <= 40:
                    lapses = some_lapses(chance, size)
                    most = chance.choice((0, 1, many, 40))
                    given = ratios(Fraction(chance.randint(-99, 999), chance.randint(1, 9)) for _ in range(most))
                    wanted = ratio(worth_life_by_life(policy, lapses, given))
                    self.same(worth_with_lapses(policy, lapses, given), wanted)

    def test_without_lapses_nothing_changes(self):
        for policy in every_policy(23):
            self.same(worth_with_lapses(policy, (), ()), worth(policy))
            self.same(worth_with_lapses(policy, (), ((7, 3),) * 40), worth(policy))
            self.same(worth_with_lapses(policy, ((0, 1),) * 40, ((7, 3),) * 40), worth(policy))

    def test_reserves_for_all_who_leave_change_nothing(self):
        chance = random.Random(24)
        for policy in every_policy(25):
            given = reserves(policy)[1:]
            for lapses in ((), some_lapses(chance, len(given)), some_lapses(chance, 40), ((1, 1),) * 40):
                self.same(worth_with_lapses(policy, lapses, given), worth(policy))

    def test_given_of_any_size(self):
        policy = ((2, 2, 1, 0), 0, (0, 1), (), (), (0, 1), 0)
        huge = 10**4000
        self.same(worth_with_lapses(policy, ((1, 2),), ((huge, 1),)), (huge // 2, 1))
        self.same(worth_with_lapses(policy, ((1, 1),), ((-huge, 1),)), (-huge, 1))
        self.same(worth_with_lapses(policy, ((1, 1),), ((1, huge),)), (1, huge))
        self.same(worth_with_lapses(policy, ((0, 1), (1, 1000)), ((5, 1), (-7, 1003))), (-7, 2006000))

    def test_all_leave_at_once(self):
        # Whatever comes later, and whatever else would be given, is of no matter any more.
        policy = ((3, 2, 1, 0), 0, (0, 1), (0, 50, 60), (9, 10, 11), (3, 1), 3)
        found = worth_with_lapses(policy, ((1, 1),) * 40, ((4, 1), (1000, 1), (1000, 1)))
        self.same(found, ratio(Fraction(9 + 2 * 4, 3) - 3))

    def test_last_age(self):
        policy = ((4, 2, 1, 0), 2, (1, 1), (5,), (8,), (1, 2), 1)
        self.same(worth_with_lapses(policy, ((1, 1),) * 40, ((99, 1),) * 40), (17, 2))


class ProfitsTest(Checks, unittest.TestCase):
    # The reserves of this one are 0 and 100/3.
    fair = ((2, 1, 0), 0, (0, 1), (), (100, 100), (200, 3), 2)

    def test_by_hand(self):
        # 200/3 grown is 220/3; a fourth of 100 is 25, and so are three fourths of 100/3. Then 100 grown less 100.
        self.same(profits(self.fair, (4, 3, 0), (1, 10)), ((70, 3), (10, 1)))
        # One year: 200/3 doubled less 100, as all die in it.
        self.same(profits(self.fair, (1, 0), (1, 1)), ((100, 3),))

    def test_term_by_term(self):
        chance = random.Random(26)
        for policy in every_policy(27):
            lives, age = policy[:2]
            later = [fraction(value) for value in reserves(policy)] + [Fraction(0)]
            for second in TABLES:
                if age > len(second) - 2:
                    continue
                rate = chance.choice(RATES)
                wanted = []
                for time in range(min(len(lives), len(second)) - 1 - age):
                    left = grown(later[time] + net(policy, time), rate, 1)
                    part_dying = dying(second, age + time)
                    left -= part_dying * entry_of(policy[4], time) + (1 - part_dying) * later[time + 1]
                    wanted.append(left)
                self.same(profits(policy, second, rate), ratios(wanted))

    def test_none_on_the_first_basis(self):
        for policy in every_policy(28):
            span = len(policy[0]) - 1 - policy[1]
            self.same(profits(policy, policy[0], policy[2]), ((0, 1),) * span)

    def test_their_sum(self):
        pairs = [((4, 2, 1, 0), (9, 8, 2, 0)), ((5, 5, 5, 1, 0), (8, 4, 2, 1, 0)), ((7, 0), (1, 0)), ((9, 9, 0), (2, 1, 0))]
        for policy in every_policy(29, [pair[0] for pair in pairs]):
            second = dict(pairs)[policy[0]]
            for rate in RATES:
                age = policy[1]
                found = sum(grown(fraction(profit), rate, -time - 1) * Fraction(second[age + time], second[age])
                            for time, profit in enumerate(profits(policy, second, rate)))
                changed = worth((second, age, rate, *policy[3:]))
                self.assertEqual(found, fraction(reserves(policy)[0]) - fraction(changed))

    def test_spans(self):
        policy = ((4, 2, 1, 0), 1, (0, 1), (0, 6), (8, 4), (3, 1), 2)
        self.assertEqual(len(profits(policy, (4, 2, 1, 0), (0, 1))), 2)
        self.assertEqual(len(profits(policy, (4, 2, 0), (0, 1))), 1)
        self.assertEqual(len(profits(policy, (8, 4, 3, 2, 1, 0), (0, 1))), 2)
        # At time 1 the reserve is 6 + 4 - 3 = 7; at time 0 it is 4 + 7/2 - 3 = 9/2. In the year from 1 on a third dies
        # of those who live in the longer table: 7 + 3 - 6 less 4/3, and nothing is held back for the others.
        self.same(profits(policy, (8, 4, 3, 2, 1, 0), (0, 1)), ((1, 4), (8, 3)))
        # In the shorter table all die in the first year: 9/2 + 3 less 8.
        self.same(profits(policy, (4, 2, 0), (0, 1)), ((-1, 2),))


class CriticalTest(Checks, unittest.TestCase):
    def test_by_hand(self):
        # 200/3 times 1/10, less (1/4 - 1/2) times (100 - 100/3): 20/3 + 50/3. Then 100 times 1/10, and all die anyway.
        self.same(critical(ProfitsTest.fair, (4, 3, 0), (1, 10)), ((70, 3), (10, 1)))
        # 200/3 times 1, less (3/4 - 1/2) times 200/3: 200/3 - 50/3. Then 100 times 1.
        self.same(critical(ProfitsTest.fair, (4, 1, 0), (1, 1)), ((50, 1), (100, 1)))

    def test_term_by_term(self):
        for policy in every_policy(31):
            lives, age, first_rate = policy[:3]
            later = [fraction(value) for value in reserves(policy)] + [Fraction(0)]
            for second in TABLES:
                for rate in RATES:
                    if len(second) != len(lives):
                        self.is_told(BadLives, critical, policy, second, rate)
                        continue
                    wanted = []
                    for time in range(len(lives) - 1 - age):
                        held = later[time] + net(policy, time)
                        more = dying(second, age + time) - dying(lives, age + time)
                        at_risk = entry_of(policy[4], time) - later[time + 1]
                        wanted.append(held * (fraction(rate) - fraction(first_rate)) - more * at_risk)
                    self.same(critical(policy, second, rate), ratios(wanted))
                    self.same(critical(policy, second, rate), profits(policy, second, rate))

    def test_lidstone(self):
        chance = random.Random(32)
        never_fall = never_rise = 0
        for _ in range(3000):
            lives = (*sorted((chance.randint(1, 30) for _ in range(chance.randint(2, 5))), reverse=True), 0)
            second = (*sorted((chance.randint(1, 30) for _ in range(len(lives) - 1)), reverse=True), 0)
            rate, other = chance.choice(RATES), chance.choice(RATES)
            alive = chance.choice(((), (0,) * (len(lives) - 2) + (90,), (5, 6, 7)))
            dead = tuple(chance.choice((0, 50, 100)) for _ in range(len(lives) - 1))
            plain = (lives, 0, rate, alive, dead, (0, 1), 40)
            first = (*plain[:5], fair_premium(plain), 40)
            changed = (second, 0, other, *plain[3:])
            changed = (*changed[:5], fair_premium(changed), 40)
            if not is_premium(first[5]) or not is_premium(changed[5]):
                continue
            numbers = [fraction(number) for number in critical(first, second, other)]
            differences = [fraction(new) - fraction(old) for new, old in zip(reserves(changed), reserves(first), strict=True)]
            if numbers == sorted(numbers):
                never_fall += 1
                self.assertLessEqual(max(differences), 0)
            if numbers == sorted(numbers, reverse=True):
                never_rise += 1
                self.assertGreaterEqual(min(differences), 0)
        self.assertGreater(never_fall, 300)
        self.assertGreater(never_rise, 300)


class ErrorsTest(Checks, unittest.TestCase):
    def test_wrong_policies(self):
        for rest in (((), ()), (None, None), ([(0, 1)], ((2, 4),))):
            self.refuses_policies(worth_with_lapses, *rest)
        for function in (profits, critical):
            for rest in (((4, 3, 2, 0), (0, 1)), (None, None), ((1, 0), (-1, 1))):
                self.refuses_policies(function, *rest)

    def test_wrong_lapses_and_given(self):
        def are(allowed):
            return lambda value: type(value) is tuple and len(value) <= 40 and all(map(allowed, value))
        self.refuses(worth_with_lapses, [GOOD_POLICY, (), ()], 1, BadLapses, are(is_chance))
        self.refuses(worth_with_lapses, [GOOD_POLICY, (), ()], 2, BadGiven, are(is_ratio))
        for value in ANYTHING:
            for many in (1, 2, 40, 41):
                row = ((1, 2),) * (many - 1) + (value,)
                if not are(is_chance)(row):
                    self.is_told(BadLapses, worth_with_lapses, GOOD_POLICY, row, ())
                if not are(is_ratio)(row):
                    with self.subTest(value=short(value)):
                        self.is_told(BadGiven, worth_with_lapses, GOOD_POLICY, (), row)
        for row in (((1, 1000),) * 40, ((999, 1000), (0, 1), (1, 1))):
            self.assertTrue(is_ratio(worth_with_lapses(GOOD_POLICY, row, row)))
        for lapse in ((1, 1001), (1001, 1000), (-1, 1000), (2, 1), [1, 2], (1, 2, 3), (2, 4)):
            self.is_told(BadLapses, worth_with_lapses, GOOD_POLICY, ((0, 1), lapse), ())

    def test_wrong_second_tables_and_rates(self):
        self.refuses(critical, [GOOD_POLICY, GOOD_POLICY[0], (0, 1)], 1, BadLives,
                     lambda value: is_lives(value) and len(value) == 4)
        self.refuses(critical, [GOOD_POLICY, GOOD_POLICY[0], (0, 1)], 2, BadRate, is_rate)
        for value in ANYTHING:
            if not is_lives(value):
                self.is_told(BadLives, profits, GOOD_POLICY, value, (0, 1))
            elif len(value) < 3:
                self.is_told(BadAge, profits, GOOD_POLICY, value, (0, 1))
        self.refuses(profits, [GOOD_POLICY, GOOD_POLICY[0], (0, 1)], 2, BadRate, is_rate)

    def test_ages_beyond_the_second_table(self):
        policy = ((4, 2, 1, 1, 0), 3, (0, 1), (), (), (0, 1), 0)
        for second in ((1, 0), (3, 2, 0), (3, 2, 1, 0)):
            self.is_told(BadAge, profits, policy, second, (0, 1))
            self.is_told(BadAge, profits, policy, second, (-1, 1))
            self.is_told(BadLives, critical, policy, second, (0, 1))
            self.is_told(BadLives, critical, policy, second, (-1, 1))
        self.same(profits(policy, (3, 2, 1, 1, 0), (0, 1)), ((0, 1),))
        for second in ((3, 2, 1, 1, 1, 0), (4, 2, 1, 1, 1, 1, 0)):
            self.same(profits(policy, second, (0, 1)), ((0, 1),))
            self.is_told(BadLives, critical, policy, second, (-1, 1))
        self.is_told(BadRate, critical, policy, (3, 2, 1, 1, 0), (-1, 1))

    def test_leftmost_error(self):
        for bad, error in ((replaced(GOOD_POLICY, (0,), (4, 2, 1)), BadLives), (replaced(GOOD_POLICY, (1,), 3), BadAge)):
            self.first_error_wins(worth_with_lapses, [GOOD_POLICY, (), ()], [(bad, error), (5, BadLapses), ({}, BadGiven)])
            self.first_error_wins(profits, [GOOD_POLICY, GOOD_POLICY[0], (0, 1)],
                                  [(bad, error), ((1, 0), BadAge), ((1, 0), BadRate)])
            self.first_error_wins(critical, [GOOD_POLICY, GOOD_POLICY[0], (0, 1)],
                                  [(bad, error), ((1, 0), BadLives), ((1, 0), BadRate)])

    def test_arguments_stay(self):
        self.keeps_arguments(worth_with_lapses, GOOD_POLICY, ((1, 2), (1, 3)), ((5, 1), (-7, 2)))
        self.keeps_arguments(profits, GOOD_POLICY, (9, 8, 2, 0), (1, 7))
        self.keeps_arguments(critical, GOOD_POLICY, (9, 8, 2, 0), (1, 7))


if __name__ == "__main__":
    unittest.main()
