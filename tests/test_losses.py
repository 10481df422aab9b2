"""Point 13: losses and their chances."""

import random
import unittest
from fractions import Fraction

from actuarium.errors import BadChance, NoPremium
from actuarium.losses import chance_of_loss, losses, safe_premium, variance, year_variances
from actuarium.policies import reserves, worth
from tests.support import GOOD_POLICY, Checks, entry_of, fraction, grown, is_level, people, ratio, ratios, replaced

FUNCTIONS = [losses, variance, year_variances, chance_of_loss]
LONGEST = tuple(range(200, 161, -1)) + (0,)
TABLES = [(1, 0), (7, 0), (2, 1, 0), (4, 2, 1, 0), (5, 5, 5, 1, 0), (9, 9, 0), (12, 9, 7, 7, 2, 2, 0), LONGEST]
RATES = [(0, 1), (1, 10), (1, 1), (-1, 4), (37, 1000)]
CHANCES = [(0, 1), (999, 1000), (1, 2), (1, 4), (1, 7), (2, 5), (3, 4), (1, 1000), (4, 5)]


def loss_of(policy, completed, premium=None):
    """The value at time 0 of all that is paid for somebody who completes so many years, less the premiums."""
    lives, age, rate, alive, dead, own, years = policy
    premium = fraction(own) if premium is None else premium
    paid = sum(grown(entry_of(alive, time), rate, -time) for time in range(completed + 1))
    paid += grown(entry_of(dead, completed), rate, -completed - 1)
    return paid - sum(grown(premium, rate, -time) for time in range(min(years, completed + 1)))


def chances_of_losses(policy):
    """Count the lives of the table by their loss."""
    living = people(policy[0], policy[1])
    found = {}
    for completed in set(living):
        loss = loss_of(policy, completed)
        found[loss] = found.get(loss, 0) + Fraction(living.count(completed), len(living))
    return found


def chance_above_zero(policy, premium):
    living = people(policy[0], policy[1])
    risky = [completed for completed in set(living) if loss_of(policy, completed, premium) > 0]
    return Fraction(sum(living.count(completed) for completed in risky), len(living))


def some_policies(seed=41):
    chance = random.Random(seed)
    for lives in TABLES:
        for age in sorted({0, (len(lives) - 2) // 2, len(lives) - 2}):
            for rate in RATES:
                alive = tuple(chance.choice((0, 0, 7, -5, 40)) for _ in range(chance.choice((0, 1, 3, 40))))
                dead = tuple(chance.choice((0, 100, 100, -30)) for _ in range(chance.choice((0, 1, 3, 40))))
                premium = ratio(Fraction(chance.randint(-50, 300), chance.choice((1, 2, 7, 1000))))
                yield (lives, age, rate, alive, dead, premium, chance.choice((0, 1, 2, 3, 40)))


class LossesTest(Checks, unittest.TestCase):
    def test_examples(self):
        fair = ((2, 1, 0), 0, (0, 1), (), (100, 100), (200, 3), 2)
        found = [losses(fair), variance(fair), year_variances(fair), chance_of_loss(fair), safe_premium(fair, (0, 1))]
        self.same(found, [(((-100, 3), (1, 2)), ((100, 3), (1, 2))), (10000, 9), ((10000, 9), (0, 1)), (1, 2), (100, 1)])

    def test_losses_life_by_life(self):
        for policy in some_policies():
            wanted = sorted(chances_of_losses(policy).items())
            self.same(losses(policy), tuple((ratio(loss), ratio(chance)) for loss, chance in wanted))
            mean = sum(loss * chance for loss, chance in wanted)
            self.same(worth(policy), ratio(mean))
            self.same(variance(policy), ratio(sum(chance * (loss - mean) ** 2 for loss, chance in wanted)))
            self.same(chance_of_loss(policy), ratio(sum(chance for loss, chance in wanted if loss > 0)))

    def test_equal_losses_are_one_pair(self):
        self.same(losses(((4, 2, 1, 0), 0, (0, 1), (), (9, 9, 9), (0, 1), 0)), (((9, 1), (1, 1)),))
        self.same(losses(((4, 2, 1, 0), 0, (0, 1), (), (9, 5, 9), (0, 1), 0)), (((5, 1), (1, 4)), ((9, 1), (3, 4))))
        # 12 after a year is worth 6 at the rate 1, and so is 24 after two years.
        self.same(losses(((3, 2, 1, 0), 0, (1, 1), (), (12, 24, 0), (0, 1), 0)), (((0, 1), (1, 3)), ((6, 1), (2, 3))))
        self.same(losses(((3, 2, 1, 0), 0, (0, 1), (), (), (0, 1), 40)), (((0, 1), (1, 1)),))

    def test_losses_ascend_as_numbers(self):
        found = losses(((5, 4, 3, 2, 1, 0), 0, (1, 1), (), (1, 9, -3, 5, -64), (0, 1), 0))
        self.same(found, (((-2, 1), (1, 5)), ((-3, 8), (1, 5)), ((5, 16), (1, 5)), ((1, 2), (1, 5)), ((9, 4), (1, 5))))

    def test_years_in_which_nobody_dies(self):
        policy = ((5, 5, 2, 2, 0), 0, (0, 1), (), (100, 3, 50, 7), (4, 1), 1)
        self.same(losses(policy), (((-1, 1), (3, 5)), ((3, 1), (2, 5))))
        self.same(chance_of_loss(policy), (2, 5))
        self.same(safe_premium(policy, (0, 1)), (7, 1))
        self.same(safe_premium(policy, (2, 5)), (3, 1))
        self.same(year_variances(policy)[0], (0, 1))
        self.same(year_variances(policy)[2:], ((0, 1), (0, 1)))

    def test_last_age(self):
        policy = ((4, 2, 1, 0), 2, (1, 1), (5,), (8,), (1, 2), 1)
        self.same([function(policy) for function in FUNCTIONS], [(((17, 2), (1, 1)),), (0, 1), ((0, 1),), (1, 1)])
        self.same([safe_premium(policy, chance) for chance in ((0, 1), (999, 1000))], [(9, 1), (9, 1)])

    def test_a_loss_of_zero_is_no_loss(self):
        policy = ((2, 1, 0), 0, (0, 1), (), (60, 100), (60, 1), 1)
        self.same(losses(policy), (((0, 1), (1, 2)), ((40, 1), (1, 2))))
        self.same(chance_of_loss(policy), (1, 2))
        self.same(chance_of_loss(replaced(policy, (5,), (100, 1))), (0, 1))
        self.same(chance_of_loss(replaced(policy, (5,), (59, 1))), (1, 1))


class VarianceTest(Checks, unittest.TestCase):
    def test_year_by_year(self):
        for policy in some_policies(42):
            lives, age, rate = policy[:3]
            kept = [fraction(value) for value in reserves(policy)] + [Fraction(0)]
            wanted = []
            for time in range(len(lives) - 1 - age):
                living = people(lives, age + time)
                dying = Fraction(living.count(0), len(living))
                square = (entry_of(policy[4], time) - kept[time + 1]) ** 2
                part = Fraction(len(living), lives[age]) * dying * (1 - dying)
                wanted.append(grown(part * square, rate, -2 * (time + 1)))
            self.same(year_variances(policy), ratios(wanted))

    def test_hattendorff(self):
        for policy in some_policies(43):
            self.same(variance(policy), ratio(sum(map(fraction, year_variances(policy)))))


class SafePremiumTest(Checks, unittest.TestCase):
    def test_premiums_at_which_some_loss_is_zero(self):
        for policy in some_policies(44):
            if policy[6] == 0:
                self.is_told(NoPremium, safe_premium, policy, (1, 2))
                continue
            edges = []
            for completed in range(len(policy[0]) - 1 - policy[1]):
                without, with_one = loss_of(policy, completed, 0), loss_of(policy, completed, 1)
                edges.append(without / (without - with_one))
                self.assertEqual(loss_of(policy, completed, edges[-1]), 0)
            edges = sorted(set(edges))
            chances = [chance_above_zero(policy, premium) for premium in edges]
            for chance in CHANCES:
                wanted = min(premium for premium, above in zip(edges, chances) if above <= fraction(chance))
                self.same(safe_premium(policy, chance), ratio(wanted))
                just_below = [premium for premium in edges if premium < wanted]
                lower = (max(just_below) + wanted) / 2 if just_below else wanted - 1
                self.assertGreater(chance_above_zero(policy, lower), fraction(chance))
                self.same(safe_premium(replaced(policy, (5,), (-7, 3)), chance), ratio(wanted))

    def test_chances_at_the_edge(self):
        # The losses with a premium p are 40 - p, 30 - p, 20 - p and 10 - p, each one for a fourth.
        policy = ((4, 3, 2, 1, 0), 0, (0, 1), (), (40, 30, 20, 10), (0, 1), 1)
        wanted = {(0, 1): 40, (249, 1000): 40, (1, 4): 30, (251, 1000): 30, (1, 2): 20, (749, 1000): 20, (3, 4): 10,
                  (999, 1000): 10}
        for chance, premium in wanted.items():
            self.same(safe_premium(policy, chance), (premium, 1))

    def test_negative_and_large_premiums(self):
        self.same(safe_premium(((2, 1, 0), 0, (0, 1), (-5,), (), (0, 1), 1), (0, 1)), (-5, 1))
        self.same(safe_premium(((2, 1, 0), 0, (-999, 1000), (), (10**6,), (0, 1), 2), (0, 1)), (10**9, 1))
        self.same(safe_premium(((2, 1, 0), 0, (1, 1), (), (0, 7), (0, 1), 40), (0, 1)), (7, 6))


class ErrorsTest(Checks, unittest.TestCase):
    def test_wrong_policies(self):
        for function in FUNCTIONS:
            self.refuses_policies(function)
        for rest in (((1, 2),), (None,), ((1, 1),)):
            self.refuses_policies(safe_premium, *rest)

    def test_wrong_chances(self):
        self.refuses(safe_premium, [GOOD_POLICY, (0, 1)], 1, BadChance, is_level)
        for chance in ((1, 1), (1, 1001), (1000, 1001), (-1, 1000), (3, 2), (2, 4), [1, 2]):
            self.is_told(BadChance, safe_premium, GOOD_POLICY, chance)

    def test_no_premium_comes_last(self):
        policy = replaced(GOOD_POLICY, (6,), 0)
        for chance in ((0, 1), (1, 2), (999, 1000)):
            self.is_told(NoPremium, safe_premium, policy, chance)
        self.is_told(BadChance, safe_premium, policy, (1, 1))
        self.is_told(BadChance, safe_premium, policy, None)

    def test_arguments_stay(self):
        for function in FUNCTIONS:
            self.keeps_arguments(function, GOOD_POLICY)
        self.keeps_arguments(safe_premium, GOOD_POLICY, (1, 3))


if __name__ == "__main__":
    unittest.main()
