"""Point 23: markets, their worths, free lunches and covers."""

import itertools
import random
import unittest
from fractions import Fraction

from actuarium.errors import BadMarket, BadPayments, FreeLunch
from actuarium.markets import cheapest_cover, dearest_worths, free_lunch, shows_lunch, shows_worths, worths
from tests.support import (
    ANYTHING, Checks, bad_thing, fraction, is_int, is_pair, is_ratio, is_row, ratio, ratios, replaced)

MARKET = ((90, (100, 0)), (170, (100, 100)))
LUNCH = ((1, (1,)), (2, (1,)))


def bad_index(value):
    """The index of a value that is no market, False for a market."""
    times = None

    def is_good(thing):
        nonlocal times
        if not is_pair(thing) or not is_int(thing[0], 1, 1000) or type(thing[1]) is not tuple:
            return False
        times = times or len(thing[1])
        return 1 <= times <= 4 and is_row(thing[1], times, -1000, 1000)

    return bad_thing(value, 1, 4, is_good)


def are_worths(market, value):
    """Tell slowly whether a value is worths."""
    if type(value) is not tuple or len(value) != len(market[0][1]) or not all(map(is_ratio, value)):
        return False
    return all(fraction(worth) > 0 for worth in value) and fits(market, value)


def fits(market, value):
    return all(price == worth_of(payments, value) for price, payments in market)


def worth_of(payments, value):
    return sum(entry * fraction(worth) for entry, worth in zip(payments, value))


def is_lunch(market, value):
    """Tell slowly whether a value is a free lunch."""
    if type(value) is not tuple or len(value) != len(market) or not all(map(is_int, value)):
        return False
    cost, paid = bought(market, value)
    return cost <= 0 and all(entry >= 0 for entry in paid) and [cost, *paid] != [0] * (len(paid) + 1)


def bought(market, amounts):
    """What so many of each pair cost, and what they pay at each time."""
    cost = sum(amount * price for amount, (price, _) in zip(amounts, market))
    return cost, [sum(amount * pair[1][at] for amount, pair in zip(amounts, market)) for at in range(len(market[0][1]))]


def can_be(rows):
    """Tell by elimination, number by number, whether numbers are there that make no row smaller than its last entry."""
    while rows and len(rows[0]) > 1:
        above = [[entry / row[0] for entry in row[1:]] for row in rows if row[0] > 0]
        below = [[entry / row[0] for entry in row[1:]] for row in rows if row[0] < 0]
        rows = [row[1:] for row in rows if row[0] == 0]
        # The first number is at least what each row of `above` asks for, and at most what each one of `below` does.
        for high, low in itertools.product(above, below):
            rows.append([one - other for one, other in zip(high[:-1], low[:-1])] + [high[-1] - low[-1]])
    return all(row[0] <= 0 for row in rows)


def has_cover(market, wanted):
    """Tell by elimination whether some amounts pay at least what is wanted."""
    rows = [[Fraction(pair[1][at]) for pair in market] + [Fraction(wanted[at])] for at in range(len(wanted))]
    return can_be(rows)


def drawn_market(chance, pairs, times):
    """A market whose prices are made from worths."""
    drawn = [Fraction(chance.randint(1, 9), chance.choice((1, 2, 3, 10))) for _ in range(times)]
    market = []
    while len(market) < pairs:
        if market and chance.random() < 0.2:
            price, payments = chance.choice(market)
            factor = chance.choice((1, 2, 3))
            pair = (price * factor, tuple(entry * factor for entry in payments))
        else:
            payments = tuple(chance.choice((0, 0, chance.randint(-30, 60), 30)) for _ in range(times))
            pair = (sum(entry * worth for entry, worth in zip(payments, drawn)), payments)
        if pair[0] == int(pair[0]) and 1 <= pair[0] <= 1000:
            market.append((int(pair[0]), pair[1]))
    return tuple(market), ratios(drawn)


def any_market(chance, pairs, times):
    return tuple((chance.randint(1, 9), tuple(chance.randint(-3, 6) for _ in range(times))) for _ in range(pairs))


class WorthsTest(Checks, unittest.TestCase):
    def test_examples(self):
        found = [worths(MARKET), cheapest_cover(MARKET, (0, 10)), dearest_worths(MARKET, (1, 1)), shows_lunch(LUNCH, (1, -1))]
        self.same(found, [((9, 10), (4, 5)), ((8, 1), ((-1, 10), (1, 10))), ((9, 10), (4, 5)), True])

    def one_of_both(self, market):
        """Exactly one of worths and a free lunch is there, and it is one."""
        self.assertIs(bad_index(market), False)
        found, lunch = worths(market), free_lunch(market)
        self.assertEqual(found is None, lunch is not None, market)
        if lunch is None:
            self.assertTrue(are_worths(market, found), (market, found))
            self.same(shows_worths(market, found), True)
        else:
            self.assertTrue(is_lunch(market, lunch), (market, lunch))
            self.same(shows_lunch(market, lunch), True)
        return found

    def test_markets_from_worths(self):
        chance = random.Random(231)
        for pairs, times, _ in itertools.product(range(1, 5), range(1, 5), range(8)):
            market, drawn = drawn_market(chance, pairs, times)
            self.assertTrue(are_worths(market, drawn))
            self.same(shows_worths(market, drawn), True)
            self.assertIsNotNone(self.one_of_both(market))

    def test_any_markets(self):
        chance = random.Random(232)
        seen = {True: 0, False: 0}
        for pairs, times, _ in itertools.product(range(1, 5), range(1, 5), range(15)):
            market = any_market(chance, pairs, times)
            seen[self.one_of_both(market) is None] += 1
        self.assertGreater(min(seen.values()), 50)

    def test_small_lunches_are_found(self):
        chance = random.Random(233)
        for _ in range(150):
            market = any_market(chance, chance.randint(1, 3), chance.randint(1, 3))
            lunches = [amounts for amounts in itertools.product(range(-3, 4), repeat=len(market)) if is_lunch(market, amounts)]
            if lunches:
                self.assertIsNone(worths(market))
            for amounts in itertools.product(range(-2, 3), repeat=len(market)):
                self.same(shows_lunch(market, amounts), is_lunch(market, amounts))

    def test_edges(self):
        # Nothing is ever paid for a positive price: who sells it has a free lunch.
        self.assertIsNone(self.one_of_both(((5, (0, 0)),)))
        self.assertIsNone(self.one_of_both(((5, (0,)), (5, (5,)))))
        # Alike pairs, and multiples, with the right price and with a wrong one.
        self.same(self.one_of_both(((2, (1,)), (2, (1,)), (2, (1,)), (2, (1,)))), ((2, 1),))
        self.assertIsNone(self.one_of_both(((2, (1,)), (2, (1,)), (2, (1,)), (3, (1,)))))
        self.same(self.one_of_both(((2, (1,)), (6, (3,)))), ((2, 1),))
        self.assertIsNone(self.one_of_both(((2, (1,)), (5, (3,)))))
        self.assertIsNotNone(self.one_of_both(((2, (1, 1)), (4, (2, 2)))))
        self.assertIsNone(self.one_of_both(((2, (1, 1)), (4, (2, 3)), (6, (3, 3)))))
        # One pair that pays less than nothing everywhere, and one at the only time.
        self.assertIsNone(self.one_of_both(((1, (-1, -1)),)))
        self.assertIsNone(self.one_of_both(((1000, (-1000,)),)))
        self.same(self.one_of_both(((1000, (1000,)),)), ((1, 1),))
        self.same(self.one_of_both(((1, (1000,)),)), ((1, 1000),))
        self.same(self.one_of_both(((1000, (1,)),)), ((1000, 1),))
        self.assertIsNotNone(self.one_of_both(((1, (1000, -1000)),)))
        self.assertIsNone(self.one_of_both(((1, (1000, -1000)), (1, (-1000, 1000)))))
        # Worths that would have to be 0 at one time are none.
        self.assertIsNone(self.one_of_both(((1, (1, 0)), (1, (1, 1)))))
        self.assertIsNone(self.one_of_both(((1, (1, 0)), (2, (1, 1)), (1, (0, 1)), (1, (0, 2)))))
        self.same(self.one_of_both(((1, (1, 0)), (2, (1, 1)), (1, (0, 1)), (3, (2, 1)))), ((1, 1), (1, 1)))

    def test_four_times_by_hand(self):
        market = ((10, (11, 0, 0, 0)), (10, (0, 12, 0, 0)), (10, (0, 0, 13, 0)), (10, (0, 0, 0, 14)))
        self.same(worths(market), ((10, 11), (5, 6), (10, 13), (5, 7)))
        self.assertIsNone(free_lunch(market))

    def test_lunches_by_hand(self):
        # Two of the first pair less one of the second: nothing is paid, and nothing is left to pay.
        market = ((1, (1, 2)), (2, (2, 4)))
        wanted = {(2, -1): False, (0, 0): False, (-2, 1): False, (1, 0): False, (1, -1): False, (-1, 0): False}
        for amounts, shown in wanted.items():
            self.same(shows_lunch(market, amounts), shown)
        # With a dearer second pair the price of both together is negative, and nothing is paid.
        market = ((1, (1, 2)), (3, (2, 4)))
        wanted = {(2, -1): True, (4, -2): True, (-2, 1): False, (1, 0): False, (3, -1): True, (1, -1): False, (0, 0): False}
        for amounts, shown in wanted.items():
            self.same(shows_lunch(market, amounts), shown)
        # For nothing, something is paid at the first time or at the second one.
        market = ((2, (1, 2)), (2, (1, 3)), (2, (2, 2)))
        wanted = {(-1, 1, 0): True, (-1, 0, 1): True, (0, -1, 1): False, (0, 1, -1): False, (-2, 1, 1): True, (1, -1, 0): False}
        for amounts, shown in wanted.items():
            self.same(shows_lunch(market, amounts), shown)


class CoverTest(Checks, unittest.TestCase):
    def both_agree(self, market, wanted):
        """The cover covers, the worths fit, and the cost and the sum are the same: so neither can be better."""
        cover, dearest = cheapest_cover(market, wanted), dearest_worths(market, wanted)
        self.assertEqual(cover is None, dearest is None)
        if cover is None:
            self.assertFalse(has_cover(market, wanted), (market, wanted))
            return None
        self.assertEqual([type(cover), len(cover), type(cover[1]), type(dearest)], [tuple, 2, tuple, tuple])
        self.assertEqual([len(cover[1]), len(dearest)], [len(market), len(wanted)])
        self.assertTrue(all(map(is_ratio, [cover[0], *cover[1], *dearest])))
        cost, paid = bought(market, list(map(fraction, cover[1])))
        self.assertTrue(all(entry >= asked for entry, asked in zip(paid, wanted)), (market, wanted, cover))
        self.assertTrue(all(worth[0] >= 0 for worth in dearest) and fits(market, dearest), (market, wanted, dearest))
        self.assertEqual([cost, worth_of(wanted, dearest)], [fraction(cover[0])] * 2)
        self.assertTrue(has_cover(market, wanted))
        return fraction(cover[0])

    def test_drawn_markets(self):
        chance = random.Random(234)
        seen = {True: 0, False: 0}
        for pairs, times, _ in itertools.product(range(1, 5), range(1, 5), range(6)):
            market, drawn = drawn_market(chance, pairs, times)
            wanted = tuple(chance.choice((0, chance.randint(-20, 40), -5, 7)) for _ in range(times))
            found = self.both_agree(market, wanted)
            seen[found is None] += 1
            if found is not None:
                self.assertGreaterEqual(found, worth_of(wanted, drawn))
        self.assertGreater(min(seen.values()), 15)

    def test_any_markets(self):
        chance = random.Random(235)
        for _ in range(80):
            market = any_market(chance, chance.randint(1, 4), chance.randint(1, 4))
            wanted = tuple(chance.randint(-9, 9) for _ in market[0][1])
            if worths(market) is not None:
                self.both_agree(market, wanted)

    def test_wanted_nothing_and_what_one_pair_pays(self):
        chance = random.Random(236)
        for pairs, times, _ in itertools.product(range(1, 5), range(1, 5), range(3)):
            market, _ = drawn_market(chance, pairs, times)
            self.assertEqual(self.both_agree(market, (0,) * times), 0)
            for price, payments in market:
                self.assertEqual(self.both_agree(market, payments), price)

    def test_by_hand(self):
        # One pair that pays 1 and 2: to have 3 at the first time three of it are bought.
        market = ((4, (1, 2)),)
        self.same(cheapest_cover(market, (3, 0)), ((12, 1), ((3, 1),)))
        self.same(dearest_worths(market, (3, 0)), ((4, 1), (0, 1)))
        self.same(cheapest_cover(market, (3, 5)), ((12, 1), ((3, 1),)))
        self.same(cheapest_cover(market, (3, 7)), ((14, 1), ((7, 2),)))
        self.same(dearest_worths(market, (3, 7)), ((0, 1), (2, 1)))
        # One of it sold leaves -1 and -2, which is enough if that is wanted.
        self.same(cheapest_cover(market, (-1, -2)), ((-4, 1), ((-1, 1),)))
        self.same(cheapest_cover(market, (-1, -1)), ((-2, 1), ((-1, 2),)))
        # What pays 1 and takes 1 covers nothing that is wanted at both times.
        self.assertIsNone(cheapest_cover(((1, (1, -1)),), (1, 1)))
        self.assertIsNone(dearest_worths(((1, (1, -1)),), (1, 1)))
        self.same(cheapest_cover(((1, (1, -1)),), (1, -1)), ((1, 1), ((1, 1),)))
        # Never more than -1 at the second time may be wanted beside 1 at the first one.
        self.assertIsNone(cheapest_cover(((1, (1, -1)),), (1, 0)))
        # Two times, of which nothing is paid at the second one.
        self.assertIsNone(cheapest_cover(((1, (1, 0)),), (0, 1)))
        self.same(cheapest_cover(((1, (1, 0)),), (1000, 0)), ((1000, 1), ((1000, 1),)))
        self.same(cheapest_cover(((1, (1, 0)),), (-1000, -1000)), ((-1000, 1), ((-1000, 1),)))

    def test_free_lunch(self):
        for market in (LUNCH, ((5, (0,)),), ((1, (-1,)),)):
            for function in (cheapest_cover, dearest_worths):
                self.is_told(FreeLunch, function, market, (1,))
                self.is_told(FreeLunch, function, market, (0,))
                self.is_told(BadPayments, function, market, (1, 1))
                self.is_told(BadPayments, function, market, None)


class JudgesTest(Checks, unittest.TestCase):
    def test_values_of_every_kind(self):
        self.judges(shows_worths, are_worths, ((9, 10), (4, 5)), MARKET)
        self.judges(shows_worths, are_worths, ((1, 2), (1, 2)), ((1, (1, 1)),))
        self.judges(shows_lunch, is_lunch, (1, -1), LUNCH)
        self.judges(shows_lunch, is_lunch, (-1, 2), ((4, (1, 2)), (2, (1, 1))))
        self.judges(shows_lunch, is_lunch, (-1,), ((5, (0,)),))

    def test_worths_by_hand(self):
        market = ((2, (1, 1)),)
        wanted = {
            ((1, 1), (1, 1)): True, ((1, 2), (3, 2)): True, ((2, 1), (0, 1)): False, ((3, 1), (-1, 1)): False,
            ((1, 1), (1, 2)): False, ((2, 2), (1, 1)): False, ((1, 1),): False, ((1, 1), (1, 1), (0, 1)): False, (1, 1): False,
        }
        for value, shown in wanted.items():
            self.same(shows_worths(market, value), shown)
        for value in ([(1, 1), (1, 1)], ((True, 1), (1, 1)), ((1, 1), (1, True)), (True, (1, 1)), ((1, 1), [1, 1])):
            self.same(shows_worths(market, value), False)
        two = ((2, (1, 1)), (3, (1, 2)))
        self.same([shows_worths(two, ((1, 1), (1, 1))), shows_worths(two, ((1, 2), (3, 2)))], [True, False])

    def test_lunches_of_other_kinds(self):
        for value in (((1, 1), (-1, 1)), (True, -1), (1, False), [1, -1], (1, -1, 0), (1,), ("1", "-1"), ((1, -1),), {0: 1, 1: -1}):
            self.same(shows_lunch(LUNCH, value), False)
        self.same(shows_lunch(((1, (5,)), (1, (6,))), (False, True)), False)
        self.same(shows_lunch(((1, (5,)), (1, (6,))), (-1, True)), False)
        self.same(shows_lunch(((1, (5,)), (1, (6,))), (-1, 1)), True)
        self.same(shows_lunch(LUNCH, (10**50, -10**50)), True)


class ErrorsTest(Checks, unittest.TestCase):
    calls = ((worths, ()), (free_lunch, ()), (cheapest_cover, ((0, 10),)), (dearest_worths, ((1, 1),)),
             (shows_worths, (((9, 10), (4, 5)),)), (shows_lunch, ((1, -1),)))

    def test_wrong_markets(self):
        more = [
            ((1, ()),), ((1, (1,) * 5),), ((1, (1,)), (1, (1, 1))), ((1, (1, 1)), (1, (1,))), ((0, (1,)),), ((1001, (1,)),),
            ((1, (1001,)),), ((1, (-1001,)),), ((1, [1]),), ([1, (1,)],), ((1, (1,)), [1, (1,)]), MARKET * 3, ((1, (1,), 1),),
            ((True, (1,)),), ((1, (True,)),), (((1, 1), (1,)),), ((1, (1,)), (1, (1,)), (1, (1,)), (1, (1, 1))), (((1,), 1),),
            ((-1, (1,)),),
        ]
        for value in more:
            self.assertIsNot(bad_index(value), False)
        self.refuses_things(self.calls, MARKET, BadMarket, bad_index, more)

    def test_index_of_the_first_bad_pair(self):
        good = (1, (1,))
        for many in range(1, 5):
            for at in range(many):
                for bad in (None, (1, (1, 1)) if at else (1, ()), (0, (1,)), [1, (1,)]):
                    value = (good,) * at + (bad,) + (None,) * (many - at - 1)
                    self.is_told(BadMarket, worths, value, index=at)
        self.is_told(BadMarket, worths, (good,) * 5, index=None)
        self.is_told(BadMarket, worths, (), index=None)

    def test_wrong_wanted(self):
        for function in (cheapest_cover, dearest_worths):
            self.refuses(function, [MARKET, (0, 0)], 1, BadPayments, lambda value: is_row(value, 2, -1000, 1000))
            for at in (0, 1):
                for value in ANYTHING:
                    if not is_int(value, -1000, 1000):
                        self.is_told(BadPayments, function, MARKET, replaced((0, 0), (at,), value))
            for bad in ((0,), (0, 0, 0), (1001, 0), (0, -1001), (0, True), [0, 0]):
                self.is_told(BadPayments, function, MARKET, bad)
            function(MARKET, (1000, -1000))

    def test_leftmost_error(self):
        for function in (cheapest_cover, dearest_worths):
            self.first_error_wins(function, [MARKET, (0, 0)], [((), BadMarket), ((0,), BadPayments)])
            self.is_told(BadMarket, function, (*LUNCH, None), (1,), index=2)

    def test_arguments_stay(self):
        for function, rest in self.calls:
            self.keeps_arguments(function, MARKET, *rest)
        for value in ([(9, 10), (4, 5)], {"a": [1]}, [[1], -1]):
            self.keeps_arguments(shows_worths, MARKET, value)
            self.keeps_arguments(shows_lunch, MARKET, value)


if __name__ == "__main__":
    unittest.main()
