"""Point 32: curves."""

import random
import unittest
from fractions import Fraction

from actuarium.curves import from_pars, par_rates, value_on_curve
from actuarium.errors import BadCurve, BadPayments, TooMany
from actuarium.payments import value_at
from tests.support import Checks, bad_thing, fraction, grown, is_payments, is_rate, is_ratio, ratio, ratios

CURVE = ((1, 10), (0, 1), (-1, 4))
EDGES = [(0, 1), (1, 10), (1, 1), (-1, 4), (-999, 1000), (37, 1000), (1000, 1), (1, 1000), (-1, 1000)]


def bad_index(value):
    return bad_thing(value, 1, 40, is_rate)


def bad_par(value):
    """The index of a value that is no par rates, False for par rates."""
    return bad_thing(value, 1, 40, lambda thing: is_ratio(thing) and abs(thing[0]) <= 10**6 >= thing[1])


def worth_on(amounts, rates):
    """The value at time 0 of amounts, each one moved back year by year."""
    found = Fraction(0)
    for time, amount in enumerate(amounts):
        value = Fraction(amount)
        for rate in reversed(rates[:time]):
            value /= 1 + rate
        found += value
    return found


def is_par(par, rates, years):
    """Tell whether payments of the rate at the times 1 to n, and of 1 more at time n, are worth 1."""
    amounts = [Fraction(0)] + [fraction(par)] * years
    amounts[-1] += 1
    return worth_on(amounts, rates) == 1


def drawn_curve(chance, years):
    return tuple(chance.choice(EDGES[:7] if chance.random() < 0.3 else [(3, 100), (1, 20), (-1, 200), (0, 1)]) for _ in range(years))


class CurvesTest(Checks, unittest.TestCase):
    def test_examples(self):
        found = [value_on_curve((0, 2, 4), ((1, 1), (0, 1))), par_rates(((1, 1), (1, 1))), from_pars(((1, 1), (1, 1))),
                 from_pars(((2, 1), (4, 1)))]
        self.same(found, [(3, 1), ((1, 1), (1, 1)), ((1, 1), (1, 1)), None])

    def test_values_term_by_term(self):
        chance = random.Random(321)
        for years in (1, 2, 3, 7, 39, 40):
            for _ in range(6):
                curve = drawn_curve(chance, years)
                payments = tuple(chance.choice((0, chance.randint(-10**6, 10**6))) for _ in range(chance.randint(0, min(years + 1, 40))))
                self.same(value_on_curve(payments, curve), ratio(worth_on(payments, list(map(fraction, curve)))))

    def test_flat_curves(self):
        for rate in EDGES:
            for payments in ((), (5,), (1, -2, 3), tuple(range(40))):
                self.same(value_on_curve(payments, (rate,) * 40), value_at(payments, rate, 0))
            self.same(par_rates((rate,) * 5), (rate,) * 5)
            self.same(from_pars((rate,) * 5), (rate,) * 5)

    def test_payments_beyond_the_curve(self):
        for years in (1, 2, 5, 38):
            curve = ((1, 10),) * years
            self.same(value_on_curve((1,) + (0,) * 39, curve), (1, 1))
            self.same(value_on_curve((0,) * years + (5,), curve), ratio(grown(5, (1, 10), -years)))
            self.same(value_on_curve((0,) * years + (5,) + (0,) * (39 - years), curve), ratio(grown(5, (1, 10), -years)))
            for late in (years + 1, 39):
                for amount in (1, -1, 10**6):
                    payments = (7,) + (0,) * (late - 1) + (amount,)
                    self.is_told(TooMany, value_on_curve, payments, curve, most=years)
            self.is_told(TooMany, value_on_curve, (0,) * (years + 1) + (1, -1)[:39 - years], curve, most=years)
        self.same(value_on_curve((0,) * 39 + (1,), ((0, 1),) * 39), (1, 1))
        self.same(value_on_curve((0,) * 39 + (1,), ((0, 1),) * 40), (1, 1))
        self.same(value_on_curve((), ((5, 1),)), (0, 1))

    def test_pars_by_putting_them_in(self):
        chance = random.Random(322)
        for years in (1, 2, 3, 8, 40):
            for _ in range(6):
                curve = drawn_curve(chance, years)
                pars = par_rates(curve)
                self.assertEqual([type(pars), len(pars)], [tuple, years])
                rates = list(map(fraction, curve))
                for many in range(1, years + 1):
                    self.assertTrue(is_ratio(pars[many - 1]) and is_par(pars[many - 1], rates, many))

    def test_there_and_back(self):
        chance = random.Random(323)
        for years in (1, 2, 3, 4):
            for _ in range(8):
                curve = tuple(chance.choice([(3, 100), (1, 20), (-1, 50), (0, 1), (1, 10)]) for _ in range(years))
                pars = par_rates(curve)
                if bad_par(pars) is False:
                    self.same(from_pars(pars), curve)

    def test_any_pars(self):
        chance = random.Random(324)
        told = {True: 0, False: 0}
        for years in (1, 2, 3, 6, 40):
            for _ in range(30):
                top = chance.choice((3, 20, 100))
                pars = ratios(Fraction(chance.randint(-top, 3 * top), 100) for _ in range(years))
                found = from_pars(pars)
                rates = self.rates_one_by_one(pars)
                self.assertEqual(found is None, rates is None)
                told[found is None] += 1
                if found is not None:
                    self.same(found, ratios(rates))
                    for many in range(1, years + 1):
                        self.assertTrue(is_par(pars[many - 1], rates, many))
        self.assertGreater(min(told.values()), 30)

    def rates_one_by_one(self, pars):
        """The rates that have these par rates, the last one of each number of years from the ones before; None if none."""
        rates = []
        for many, par in enumerate(map(fraction, pars), 1):
            # What is left to be worth 1 is the last payment, moved back by all years.
            left = 1 - worth_on([Fraction(0)] + [par] * (many - 1), rates)
            if left == 0:
                return None
            last = worth_on([0] * (many - 1) + [1], rates) * (1 + par) / left - 1
            if last <= -1:
                return None
            rates.append(last)
        return rates

    def test_by_hand(self):
        # Worth 1/2 after a year and 1/2 after two: 1 - 1/2 = 1/2 is paid back by two payments of 1/2.
        self.same(par_rates(((1, 1), (0, 1))), ((1, 1), (1, 2)))
        self.same(from_pars(((1, 1), (1, 2))), ((1, 1), (0, 1)))
        # Rates below 0: 4/3 after a year, 16/9 after two; -7/9 divided by 28/9.
        self.same(par_rates(((-1, 4), (-1, 4))), ((-1, 4), (-1, 4)))
        self.same(par_rates(((-1, 2), (1, 1))), ((-1, 2), (0, 1)))
        self.same(from_pars(((-1, 2), (0, 1))), ((-1, 2), (1, 1)))
        # Rates beyond those of a curve may come out.
        self.same(from_pars(((1000000, 1),)), ((1000000, 1),))
        self.same(from_pars(((-999999, 1000000),)), ((-999999, 1000000),))
        self.same(from_pars(((1, 1000000),)), ((1, 1000000),))

    def test_pars_without_a_curve(self):
        for par in ((-1, 1), (-2, 1), (-1000000, 1), (-1000000, 999999)):
            self.assertIsNone(from_pars((par,)))
            self.assertIsNone(from_pars(((1, 10), par)))
            self.assertIsNone(from_pars((par, (1, 10))))
            self.assertIsNone(from_pars(((1, 10), (1, 10), par, (1, 10))))
        # A unit a year later is worth 1/2: with a par rate of 2 the second payment would have to be worth nothing.
        self.assertIsNone(from_pars(((1, 1), (2, 1))))
        self.assertIsNone(from_pars(((1, 1), (3, 1))))
        # 1/2 and (1 - 199/200) / (299/100): both are worth something.
        self.same(from_pars(((1, 1), (199, 100))), ((1, 1), (298, 1)))
        self.same(from_pars(((0, 1),) * 40), ((0, 1),) * 40)
        self.assertIsNone(from_pars(((0, 1),) * 39 + ((1, 39),)))
        self.assertIsNotNone(from_pars(((0, 1),) * 39 + ((1, 40),)))


class ErrorsTest(Checks, unittest.TestCase):
    def test_wrong_curves(self):
        more = [((0, 1),) * 41, ((0, 1), (-1, 1)), ((0, 1), (1001, 1)), ((0, 1), (1, 1001)), ((2, 4),), ([0, 1],), ((0, True),),
                ((True, 1),), ((0, 1), 0), (0, 1), ((-1000, 1000),), ((-1001, 1000),)]
        for value in more:
            self.assertIsNot(bad_index(value), False)
        self.refuses_things([(par_rates, ())], CURVE, BadCurve, bad_index, more)
        self.refuses_things([(lambda curve: value_on_curve((), curve), ())], CURVE, BadCurve, bad_index, more)
        self.refuses_things([(lambda curve: value_on_curve((1,) * 40, curve), ())], CURVE, BadCurve, bad_index, more)

    def test_wrong_pars(self):
        more = [((0, 1),) * 41, ((0, 1), (1000001, 1)), ((0, 1), (-1000001, 1)), ((0, 1), (1, 1000001)), ((2, 4),), ([0, 1],),
                ((0, True),), ((True, 1),), ((0, 1), 0), (0, 1), ((1, -1),), ((-1, 1), (2, 2))]
        for value in more:
            self.assertIsNot(bad_par(value), False)
        self.refuses_things([(from_pars, ())], ((1, 10), (0, 1), (1, 20)), BadCurve, bad_par, more)

    def test_index_of_the_first_bad_rate(self):
        for at in range(40):
            value = ((0, 1),) * at + ((2, 4),) + (None,) * (39 - at)
            self.is_told(BadCurve, par_rates, value, index=at)
            self.is_told(BadCurve, from_pars, value, index=at)
            self.is_told(BadCurve, value_on_curve, (1,) * 40, value, index=at)
        for function in (par_rates, from_pars):
            self.is_told(BadCurve, function, (None,) * 41, index=None)
            self.is_told(BadCurve, function, (), index=None)

    def test_wrong_payments(self):
        self.refuses(value_on_curve, [(1, 2), CURVE], 0, BadPayments, is_payments)
        for bad in ((10**6 + 1,), (-10**6 - 1,), (0,) * 41, [1], (True,), ((1, 1),)):
            self.is_told(BadPayments, value_on_curve, bad, CURVE)

    def test_leftmost_error(self):
        self.first_error_wins(value_on_curve, [(1,), CURVE], [((True,), BadPayments), ((None,), BadCurve)])
        # TooMany comes after all others.
        self.is_told(BadCurve, value_on_curve, (1,) * 40, ((1, 10), None), index=1)
        self.is_told(BadPayments, value_on_curve, (1,) * 41, CURVE)
        self.is_told(TooMany, value_on_curve, (1,) * 40, CURVE, most=3)

    def test_arguments_stay(self):
        self.keeps_arguments(value_on_curve, (1, 2, 3), CURVE)
        self.keeps_arguments(par_rates, CURVE)
        self.keeps_arguments(from_pars, CURVE)


if __name__ == "__main__":
    unittest.main()
