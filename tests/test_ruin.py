"""Points 20 and 21: ruin, gifts and caps."""

import random
import unittest
from fractions import Fraction

from actuarium.errors import BadClaims, BadRate, BadTime, NoGain
from actuarium.ruin import (
    always_behind, best_cap, deficits, gifts_value, ruin_ever, ruin_within, years_to_ruin)
from tests.support import Checks, fraction, is_claims, is_rate, is_time, mean, outcomes, ratio, ratios, rows_of_claims

LONG = (1000, 0, 7, 0, 0, 1, 3, 0, 2, 0, 0, 0, 9)
GAINS = [(3, 0, 1), (2, 1), (5,), (1000, 1), (4, 2, 1), (7, 1, 1, 1), (9, 0, 0, 0, 1, 1), LONG, (99, 0, 1), (8, 1, 0, 0, 0, 0, 1)]
EVEN = [(1, 0, 1), (0, 1), (2, 3, 2), (2, 0, 0, 1), (11,) + (0,) * 11 + (1,), (0, 1000)]
LOSSES = [(0, 0, 1), (0, 1, 1), (1, 0, 3), (1,) * 13, (0,) * 12 + (1,), (1, 2, 0, 5)]
NEVER = [(5,), (2, 1), (1000, 1), (0, 1), (0, 1000), (1, 999)]
RATES = [(1, 10), (1, 1), (1, 1000), (1000, 1), (37, 100)]


def ruined_after(row, start):
    """The number of the year at whose end the surplus is below 0 for the first time, None if it never is."""
    surplus = start
    for year, amount in enumerate(row, 1):
        surplus += 1 - amount
        if surplus < 0:
            return year
    return None


def yearly_chances(claims, start, years):
    """The chances of ruin in so many years, as floats, by the surplus at ruin; who has more than 300 is left out."""
    parts = [(amount, float(part)) for amount, part in outcomes(claims)]
    left, lost = {start: 1.0}, {}
    for _ in range(years):
        later = {}
        for surplus, chance in left.items():
            for amount, part in parts:
                goal = surplus + 1 - amount
                held = lost if goal < 0 else later
                if goal <= 300:
                    held[goal] = held.get(goal, 0.0) + chance * part
        left = later
    return lost


class RuinChecks(Checks):
    def close_from_below(self, number, wanted):
        wanted = float(fraction(wanted))
        self.assertLessEqual(number, wanted + 1e-9)
        self.assertGreater(number, wanted - 1e-4)


class WithinTest(Checks, unittest.TestCase):
    def test_examples(self):
        found = [ruin_ever((3, 0, 1), 1), ruin_within((1, 0, 1), 0, 3), always_behind((1, 0, 1), 3), deficits((3, 0, 1)),
                 years_to_ruin((1, 0, 1), 0, 0), gifts_value((1, 0, 1), 0, 0, (1, 1))]
        self.same(found, [(1, 9), (5, 8), (1, 4), ((1, 3), (0, 1)), (2, 1), (1, 3)])

    def test_within_by_all_rows(self):
        for claims in GAINS + EVEN + LOSSES:
            many = {1: 12, 2: 7, 3: 6, 4: 4}.get(len(outcomes(claims)), 2)
            for years in range(many + 1):
                for start in (0, 1, 2, 5, 19, 20):
                    wanted = sum(chance for row, chance in rows_of_claims(claims, years) if ruined_after(row, start))
                    self.same(ruin_within(claims, start, years), ratio(wanted))

    def test_longest_times(self):
        # With claims of 0 and 2 the surplus goes up or down by 1: twelve times down from 11, or earlier.
        self.same(ruin_within((1, 0, 1), 11, 12), (1, 4096))
        self.same(ruin_within((1, 0, 1), 12, 12), (0, 1))
        self.same(ruin_within((0,) * 12 + (1,), 20, 1), (0, 1))
        self.same(ruin_within((0,) * 12 + (1,), 20, 2), (1, 1))
        for claims in GAINS + LOSSES:
            for start in (0, 3, 20):
                self.same(ruin_within(claims, start, 0), (0, 1))
                float_chance = sum(yearly_chances(claims, start, 12).values())
                self.assertAlmostEqual(float(fraction(ruin_within(claims, start, 12))), float_chance, places=12)

    def test_always_behind_by_all_rows(self):
        for claims in GAINS + EVEN + LOSSES:
            for years in range(1, {1: 12, 2: 9, 3: 6, 4: 5}.get(len(outcomes(claims)), 3) + 1):
                wanted = takacs = Fraction(0)
                for row, chance in rows_of_claims(claims, years):
                    if all(sum(row[:number]) < number for number in range(1, years + 1)):
                        wanted += chance
                    takacs += chance * max(0, years - sum(row)) / years
                self.assertEqual(wanted, takacs)
                self.same(always_behind(claims, years), ratio(wanted))

    def test_takacs_for_the_longest_time(self):
        for claims in GAINS + EVEN + LOSSES:
            totals = {0: Fraction(1)}
            for _ in range(12):
                later = {}
                for total, chance in totals.items():
                    for amount, part in outcomes(claims):
                        later[total + amount] = later.get(total + amount, 0) + chance * part
                totals = later
            behind = sum(chance * max(0, 12 - total) for total, chance in totals.items())
            self.same(always_behind(claims, 12), ratio(Fraction(behind, 12)))
        self.same(always_behind((5,), 12), (1, 1))
        self.same(always_behind((0, 1), 1), (0, 1))
        self.same(always_behind((1, 1), 1), (1, 2))


class EverTest(RuinChecks, unittest.TestCase):
    def test_means_of_the_claims_used_here(self):
        self.assertLess(max(map(mean, GAINS)), 1)
        self.assertEqual(set(map(mean, EVEN)), {1})
        self.assertGreater(min(map(mean, LOSSES)), 1)

    def test_equations(self):
        for claims in GAINS + EVEN + LOSSES:
            found = [fraction(ruin_ever(claims, start)) for start in range(21)]
            for start in range(20):
                later = [(chance, start + 1 - amount) for amount, chance in outcomes(claims)]
                self.assertEqual(found[start], sum(chance * (found[goal] if goal >= 0 else 1) for chance, goal in later))

    def test_many_years_from_below(self):
        for claims in GAINS:
            for start in (0, 1, 4, 20):
                found = ruin_ever(claims, start)
                self.assertEqual(found, ratio(fraction(found)))
                for years in (1, 6, 12):
                    self.assertLessEqual(fraction(ruin_within(claims, start, years)), fraction(found))
                self.close_from_below(sum(yearly_chances(claims, start, 1000).values()), found)

    def test_certain_and_impossible_ruin(self):
        for start in (0, 1, 20):
            for claims in NEVER:
                self.same(ruin_ever(claims, start), (0, 1))
                self.same(ruin_within(claims, start, 12), (0, 1))
            for claims in EVEN + LOSSES:
                if claims not in NEVER:
                    self.same(ruin_ever(claims, start), (1, 1))
        self.same(ruin_ever((99, 0, 101), 20), (1, 1))
        self.same(ruin_ever((101, 0, 99), 0), (99, 101))
        self.same(ruin_ever((3, 0, 1), 20), (1, 3**21))

    def test_up_and_down_by_one(self):
        # The chance to come down by 1 sooner or later is q / p, once for each step down to -1.
        for up, down in ((3, 1), (2, 1), (9, 8), (1000, 999)):
            for start in range(21):
                self.same(ruin_ever((up, 0, down), start), ratio(Fraction(down, up) ** (start + 1)))
                self.same(ruin_ever((up, 7, down), start), ratio(Fraction(down, up) ** (start + 1)))


class DeficitsTest(RuinChecks, unittest.TestCase):
    def test_from_below(self):
        for claims in GAINS:
            found = deficits(claims)
            self.assertEqual(len(found), len(claims) - 1)
            lost = yearly_chances(claims, 0, 1000)
            for below, chance in enumerate(found, 1):
                self.close_from_below(lost.get(-below, 0.0), chance)
            self.same(ratio(sum(map(fraction, found))), ruin_ever(claims, 0))

    def test_one_drop_after_the_other(self):
        # Whoever comes below their surplus drops below it by 1, 2, .. with the chances of the deficits; they are
        # ruined, or go on in the same way from the surplus that is left.
        for claims in GAINS:
            drops = list(enumerate(map(fraction, deficits(claims)), 1))
            ruin_from = []
            for start in range(21):
                ruin_from.append(sum((chance * (ruin_from[start - drop] if drop <= start else 1) for drop, chance in drops),
                                     Fraction(0)))
                self.same(ruin_ever(claims, start), ratio(ruin_from[start]))

    def test_edges(self):
        self.same(deficits((5,)), ())
        self.same(deficits((2, 1)), ((0, 1),))
        self.same(deficits((11,) + (0,) * 9 + (1,)), ratios([Fraction(1, 11)] * 9 + [0]))
        for claims in EVEN + LOSSES:
            self.is_told(NoGain, deficits, claims)
        self.same(deficits((1001 - 1, 0, 999)), ratios([Fraction(999, 1000), 0]))
        self.is_told(NoGain, deficits, (1000, 0, 1000))


class CapTest(RuinChecks, unittest.TestCase):
    def test_equations_of_years(self):
        for claims in GAINS + EVEN + LOSSES:
            for cap in range(9):
                found = [years_to_ruin(claims, cap, start) for start in range(cap + 1)]
                if claims in NEVER:
                    self.same(found, [None] * (cap + 1))
                    continue
                values = [fraction(value) for value in found]
                self.same(found, list(ratios(values)))
                for start in range(cap + 1):
                    later = [(chance, min(cap, start + 1 - amount)) for amount, chance in outcomes(claims)]
                    self.assertEqual(values[start], 1 + sum(chance * values[goal] for chance, goal in later if goal >= 0))

    def test_years_from_below(self):
        for claims in ((1, 0, 1), (3, 0, 1), (0, 1, 1), (1, 2, 0, 5)):
            for cap, start in ((0, 0), (2, 0), (2, 2)):
                left, years = {start: 1.0}, 0.0
                for _ in range(2000):
                    years += sum(left.values())
                    later = {}
                    for surplus, chance in left.items():
                        for amount, part in outcomes(claims):
                            goal = min(cap, surplus + 1 - amount)
                            if goal >= 0:
                                later[goal] = later.get(goal, 0.0) + chance * float(part)
                    left = later
                self.close_from_below(years, years_to_ruin(claims, cap, start))

    def test_equations_of_gifts(self):
        for claims in GAINS + EVEN + LOSSES:
            for rate in RATES:
                for cap in (0, 1, 3, 8):
                    values = [fraction(gifts_value(claims, cap, start, rate)) for start in range(cap + 1)]
                    for start in range(cap + 1):
                        year = Fraction(0)
                        for amount, chance in outcomes(claims):
                            surplus = start + 1 - amount
                            if surplus >= 0:
                                year += chance * (max(0, surplus - cap) + values[min(cap, surplus)])
                        self.assertEqual(values[start] * (1 + fraction(rate)), year)

    def test_gifts_by_hand(self):
        # Claims of 0 alone: the surplus reaches the cap, and from then on each year gives 1.
        for cap in range(9):
            for start in range(cap + 1):
                wanted = Fraction(1, 2 ** (cap - start))
                self.same(gifts_value((7,), cap, start, (1, 1)), ratio(wanted))
        self.same(gifts_value((0, 1), 0, 0, (1, 1)), (0, 1))
        self.same(gifts_value((0, 1, 1), 8, 8, (1, 1)), (0, 1))
        self.same(gifts_value((1, 1), 0, 0, (1, 1)), (1, 2))
        self.same(gifts_value((5,), 0, 0, (1, 1000)), (1000, 1))

    def test_best_caps(self):
        seen = set()
        chance = random.Random(101)
        some = [tuple(chance.choice((0, 1, 5, 50, 1000)) for _ in range(chance.randint(1, 6))) for _ in range(60)]
        for claims in [*GAINS, *EVEN, *LOSSES, *filter(is_claims, some)]:
            for rate in RATES + [(1, 30), (1, 60), (1, 120), (1, 240), (1, 480)]:
                values = [fraction(gifts_value(claims, cap, 0, rate)) for cap in range(9)]
                wanted = values.index(max(values))
                self.same(best_cap(claims, rate), wanted)
                seen.add(wanted)
        self.assertEqual(seen, set(range(9)))

    def test_equal_values_of_caps(self):
        # Nobody ever gets a gift, or nobody ever comes above 0.
        self.same(best_cap((0, 1), (1, 10)), 0)
        self.same(best_cap((0, 0, 1), (1, 10)), 0)
        for claims, rate, caps in (((4, 0, 1), (1, 5), [0, 1]), ((4, 2, 1), (1, 7), [0, 1]), ((9, 0, 2), (1, 11), [1, 2])):
            values = [fraction(gifts_value(claims, cap, 0, rate)) for cap in range(9)]
            self.assertEqual([cap for cap, value in enumerate(values) if value == max(values)], caps)
            self.same(best_cap(claims, rate), caps[0])


class ErrorsTest(Checks, unittest.TestCase):
    good = (3, 0, 1)

    def test_wrong_claims(self):
        for function, rest in ((ruin_within, [0, 0]), (ruin_ever, [0]), (always_behind, [1]), (deficits, []),
                               (years_to_ruin, [2, 1]), (gifts_value, [2, 1, (1, 10)]), (best_cap, [(1, 10)])):
            self.refuses_claims(function, [self.good, *rest], 0)
            self.refuses_claims(function, [self.good, *(None for _ in rest)], 0)

    def test_wrong_times(self):
        self.refuses(ruin_within, [self.good, 0, 0], 1, BadTime, is_time(0, 20))
        self.refuses(ruin_within, [self.good, 0, 0], 2, BadTime, is_time(0, 12))
        self.refuses(ruin_ever, [self.good, 0], 1, BadTime, is_time(0, 20))
        self.refuses(always_behind, [self.good, 1], 1, BadTime, is_time(1, 12))
        for value, starts, years, behind in ((-1, 1, 1, 1), (0, 0, 0, 1), (12, 0, 0, 0), (13, 0, 1, 1), (20, 0, 1, 1), (21, 1, 1, 1)):
            for function, arguments, bad in ((ruin_within, (self.good, value, 0), starts), (ruin_ever, (self.good, value), starts),
                                             (ruin_within, (self.good, 0, value), years),
                                             (always_behind, (self.good, value), behind)):
                if bad:
                    self.is_told(BadTime, function, *arguments)
                else:
                    function(*arguments)

    def test_wrong_caps_starts_and_rates(self):
        for function, rest in ((years_to_ruin, []), (gifts_value, [(1, 10)])):
            self.refuses(function, [self.good, 8, 0, *rest], 1, BadTime, is_time(0, 8))
            for cap in (0, 3, 8):
                self.refuses(function, [self.good, cap, 0, *rest], 2, BadTime, is_time(0, cap))
                self.is_told(BadTime, function, self.good, cap, cap + 1, *rest)
            self.is_told(BadTime, function, self.good, 9, 0, *rest)
            self.is_told(BadTime, function, (5,), 9, 0, *rest)
            self.is_told(BadTime, function, (5,), 8, 9, *rest)
        for function, rest in ((gifts_value, [0, 0]), (best_cap, [])):
            self.refuses(function, [self.good, *rest, (1, 10)], len(rest) + 1, BadRate,
                         lambda value: is_rate(value) and value[0] > 0)
            for rate in ((0, 1), (-1, 1000), (-1, 2), (1001, 1), (1, 1001), (2, 4)):
                self.is_told(BadRate, function, self.good, *rest, rate)

    def test_leftmost_error(self):
        bad = ((1, 0), BadClaims)
        self.first_error_wins(ruin_within, [self.good, 0, 0], [bad, (21, BadTime), (13, BadTime)])
        self.first_error_wins(ruin_ever, [self.good, 0], [bad, (-1, BadTime)])
        self.first_error_wins(always_behind, [self.good, 1], [bad, (0, BadTime)])
        self.first_error_wins(years_to_ruin, [self.good, 1, 0], [bad, (9, BadTime), (2, BadTime)])
        self.first_error_wins(gifts_value, [self.good, 1, 0, (1, 1)], [bad, (9, BadTime), (2, BadTime), ((0, 1), BadRate)])
        self.first_error_wins(best_cap, [self.good, (1, 1)], [bad, ((0, 1), BadRate)])

    def test_arguments_stay(self):
        self.keeps_arguments(ruin_within, self.good, 1, 5)
        self.keeps_arguments(ruin_ever, self.good, 5)
        self.keeps_arguments(always_behind, self.good, 5)
        self.keeps_arguments(deficits, self.good)
        self.keeps_arguments(years_to_ruin, self.good, 3, 1)
        self.keeps_arguments(gifts_value, self.good, 3, 1, (1, 10))
        self.keeps_arguments(best_cap, self.good, (1, 10))


if __name__ == "__main__":
    unittest.main()
