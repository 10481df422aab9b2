"""Points 9 and 10: policies on one life."""

import unittest
from fractions import Fraction

from actuarium.errors import BadAge, BadLives, BadPremium, BadTime, NoPremium
from actuarium.policies import fair_premium, fund, paid_up, reserves, split_premiums, worth
from tests.support import (
    GOOD_POLICY, Checks, entry_of, fraction, grown, is_ratio, is_time, people, ratio, some_policies)

FUNCTIONS = [worth, fair_premium, reserves, fund, split_premiums]
LONGEST = tuple(range(200, 161, -1)) + (0,)
TABLES = [(1, 0), (7, 0), (2, 1, 0), (4, 2, 1, 0), (10, 8, 3, 0), (5, 5, 5, 1, 0), (9, 9, 0), LONGEST]
RATES = [(0, 1), (1, 10), (1, 1), (-1, 4), (-999, 1000), (37, 1000), (1000, 1)]


def flows(policy, completed, start=0, premiums=True):
    """List the pairs (time, amount) from a time on for somebody who still completes so many years."""
    lives, age, rate, alive, dead, premium, years = policy
    found = []
    for time in range(start, completed + 1):
        found.append((time, entry_of(alive, time)))
        if premiums and time < years:
            found.append((time, -fraction(premium)))
    found.append((completed + 1, entry_of(dead, completed)))
    return found


def reserve(policy, time, premiums=True):
    """Take the mean, over all who live at a time, of the value then of what each one gets from then on."""
    lives, age, rate = policy[:3]
    living = people(lives, age + time)
    worths = {}
    for left in set(living):
        paid = flows(policy, time + left, time, premiums)
        worths[left] = sum(grown(amount, rate, time - at) for at, amount in paid)
    return sum(worths[left] for left in living) / len(living)


def span(policy):
    return sum(1 for living in policy[0][policy[1]:] if living > 0)


def every_policy():
    return some_policies(12, TABLES, RATES)


class PoliciesTest(Checks, unittest.TestCase):
    def test_examples(self):
        plain = ((2, 1, 0), 0, (0, 1), (), (100, 100), (0, 1), 2)
        fair = (*plain[:5], fair_premium(plain), 2)
        found = [worth(plain), fair[5], reserves(fair), fund(fair), paid_up(fair, 1), split_premiums(fair)]
        self.same(found, [(100, 1), (200, 3), ((0, 1), (100, 3)), ((0, 1), (100, 3)), (1, 3),
                          (((100, 3), (100, 3)), ((-100, 3), (100, 1)))])

    def test_worth_and_reserves_life_by_life(self):
        for policy in every_policy():
            wanted = tuple(ratio(reserve(policy, time)) for time in range(span(policy)))
            self.same(reserves(policy), wanted)
            self.same(worth(policy), wanted[0])

    def test_fair_premium(self):
        for policy in every_policy():
            if policy[6] == 0:
                self.is_told(NoPremium, fair_premium, policy)
                continue
            found = fair_premium(policy)
            self.assertTrue(is_ratio(found))
            self.assertEqual(reserve((*policy[:5], found, policy[6]), 0), 0)
            self.same(fair_premium((*policy[:5], (-7, 3), policy[6])), found)

    def test_fund_life_by_life(self):
        for policy in every_policy():
            lives, age, rate, alive, dead, premium, years = policy
            held, wanted = Fraction(0), []
            for time in range(span(policy)):
                living = people(lives, age + time)
                wanted.append(ratio(held / len(living)))
                for left in living:
                    held -= entry_of(alive, time)
                    held += fraction(premium) if time < years else 0
                held = grown(held, rate, 1)
                for left in living:
                    held -= entry_of(dead, time) if left == 0 else 0
            self.same(fund(policy), tuple(wanted))

    def test_fund_and_reserves(self):
        for policy in every_policy():
            lives, age, rate = policy[:3]
            for time, (held, kept) in enumerate(zip(fund(policy), reserves(policy), strict=True)):
                part = Fraction(lives[age + time], lives[age])
                self.assertEqual(fraction(held), fraction(kept) - grown(fraction(worth(policy)), rate, time) / part)

    def test_split_premiums(self):
        for policy in every_policy():
            lives, age, rate, alive, dead, premium, years = policy
            kept = [fraction(value) for value in reserves(policy)] + [Fraction(0)]
            pairs = split_premiums(policy)
            self.assertEqual(len(pairs), span(policy))
            for time, (saved, risk) in enumerate(pairs):
                living = people(lives, age + time)
                dying = Fraction(living.count(0), len(living))
                self.same(saved, ratio(grown(kept[time + 1], rate, -1) - kept[time]))
                self.same(risk, ratio(grown(dying * (entry_of(dead, time) - kept[time + 1]), rate, -1)))
                paid = (fraction(premium) if time < years else 0) - entry_of(alive, time)
                self.assertEqual(fraction(saved) + fraction(risk), paid)

    def test_paid_up(self):
        for policy in every_policy():
            for time in range(span(policy)):
                promised = reserve(policy, time, premiums=False)
                if promised == 0:
                    self.is_told(NoPremium, paid_up, policy, time)
                else:
                    self.same(paid_up(policy, time), ratio(reserve(policy, time) / promised))

    def test_years_and_payments_beyond_the_span(self):
        lives = (4, 2, 1, 0)
        short_one = (lives, 1, (1, 10), (5, 6), (7, 8), (3, 2), 2)
        long_one = (lives, 1, (1, 10), (5, 6, 9, 9), (7, 8) + (9,) * 38, (3, 2), 40)
        for function in FUNCTIONS:
            self.same(function(long_one), function(short_one))
        self.same(paid_up(long_one, 1), paid_up(short_one, 1))
        self.is_told(BadTime, paid_up, long_one, 2)

    def test_last_age(self):
        policy = ((4, 2, 1, 0), 2, (1, 1), (5,), (8,), (1, 2), 1)
        self.same([worth(policy), fair_premium(policy), reserves(policy), fund(policy), split_premiums(policy),
                   paid_up(policy, 0)],
                  [(17, 2), (9, 1), ((17, 2),), ((0, 1),), (((-17, 2), (4, 1)),), (17, 18)])

    def test_all_die_in_one_year(self):
        policy = ((6, 0), 0, (0, 1), (), (100,), (100, 1), 1)
        self.same([worth(policy), fair_premium(policy), reserves(policy), fund(policy), split_premiums(policy),
                   paid_up(policy, 0)],
                  [(0, 1), (100, 1), ((0, 1),), ((0, 1),), (((0, 1), (100, 1)),), (0, 1)])

    def test_paid_by_the_insured(self):
        policy = ((6, 0), 0, (0, 1), (-3,), (2,), (4, 1), 1)
        self.same([worth(policy), fair_premium(policy), paid_up(policy, 0)], [(-5, 1), (-1, 1), (5, 1)])
        self.same(paid_up(((6, 0), 0, (0, 1), (-3,), (2,), (-4, 1), 1), 0), (-3, 1))

    def test_nothing_paid(self):
        policy = ((2, 1, 0), 0, (1, 10), (), (), (0, 1), 1)
        self.same([worth(policy), fair_premium(policy), reserves(policy)], [(0, 1), (0, 1), ((0, 1), (0, 1))])
        self.is_told(NoPremium, paid_up, policy, 0)
        self.is_told(NoPremium, paid_up, ((2, 1, 0), 0, (0, 1), (1,), (0, -2), (5, 1), 1), 0)
        self.is_told(NoPremium, paid_up, ((2, 1, 0), 0, (0, 1), (7,), (7,), (5, 1), 1), 1)
        self.same(paid_up(((2, 1, 0), 0, (0, 1), (7,), (7,), (5, 1), 0), 0), (1, 1))


class ErrorsTest(Checks, unittest.TestCase):
    good = GOOD_POLICY

    def test_wrong_policies(self):
        for function in FUNCTIONS:
            self.refuses_policies(function)
        for time in (0, 99, None, "x"):
            self.refuses_policies(paid_up, time)

    def test_limits_of_premiums(self):
        for premium in [(10**6, 1), (-10**6, 1), (1, 10**6), (-1, 10**6), (10**12 - 1, 10**6), (1 - 10**12, 10**6)]:
            self.assertTrue(is_ratio(worth((*self.good[:5], premium, 2))))
        for premium in [(10**6 + 1, 1), (-10**6 - 1, 1), (1, 10**6 + 1), (10**12 + 1, 10**6), (-10**12 - 1, 10**6)]:
            self.is_told(BadPremium, worth, (*self.good[:5], premium, 2))

    def test_no_premium_comes_last(self):
        for at, value, error in ((0, None, BadLives), (1, 3, BadAge), (5, 1, BadPremium)):
            policy = (*self.good[:at], value, *self.good[at + 1:6], 0)
            self.is_told(error, fair_premium, policy)
        self.is_told(NoPremium, fair_premium, (*self.good[:6], 0))
        empty = (*self.good[:3], (), (), *self.good[5:])
        self.is_told(BadTime, paid_up, empty, 2)
        self.is_told(NoPremium, paid_up, empty, 1)

    def test_times_of_paid_up(self):
        self.refuses(paid_up, [self.good, 0], 1, BadTime, is_time(0, 1))
        for time in (-1, 2, True, False, None):
            self.is_told(BadTime, paid_up, self.good, time)

    def test_arguments_stay(self):
        for function in FUNCTIONS:
            self.keeps_arguments(function, self.good)
        self.keeps_arguments(paid_up, self.good, 1)


if __name__ == "__main__":
    unittest.main()
