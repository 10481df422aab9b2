"""Points 18 and 19: shortfalls, views and covers."""

import itertools
import random
import unittest
from fractions import Fraction

from actuarium.errors import BadChance, BadClaims, BadCover, BadTime
from actuarium.orders import is_safer
from actuarium.shortfalls import best_edge, cover_above, kept, shortfall, shows_view, worst_view
from tests.support import (
    ANYTHING, Checks, above, fraction, is_int, is_level, is_ratio, is_time, mean, outcomes, places, ratio, replaced, short)

LONG = (1, 0, 7, 0, 0, 1000, 3, 0, 2, 0, 0, 0, 999)
SOME = [(5,), (0, 1), (1, 1), (3, 0, 1), (1, 0, 3), (0, 0, 0, 2), (2, 3, 0, 5), (7, 1, 1, 1), LONG, (1,) * 13, (0,) * 12 + (1,)]
LEVELS = [(0, 1), (1, 2), (1, 4), (3, 4), (1, 3), (9, 10), (999, 1000), (1, 1000), (7, 12), (123, 997)]


def chance_of(claims, amount):
    return Fraction(claims[amount], sum(claims))


def worst_by_edges(claims, level):
    """The least, over all edges, of the edge plus the expected part above it in the worst part of all outcomes."""
    return min(edge + above(claims, edge) / (1 - fraction(level)) for edge in range(len(claims)))


def is_worst_view(claims, level, value):
    """Tell slowly whether a value is a view with the greatest sum."""
    if type(value) is not tuple or len(value) != len(claims) or not all(map(is_ratio, value)):
        return False
    if any(not 0 <= fraction(entry) <= 1 / (1 - fraction(level)) for entry in value):
        return False
    if sum(fraction(entry) * chance_of(claims, amount) for amount, entry in enumerate(value)) != 1:
        return False
    return view_sum(claims, value) == worst_by_edges(claims, level)


def view_sum(claims, value):
    return sum(fraction(entry) * chance_of(claims, amount) * amount for amount, entry in enumerate(value))


def some_view(claims, level, chance):
    """Make a view: what is missing from a sum of 1 is filled up amount by amount, in any order."""
    most = 1 / (1 - fraction(level))
    entries = [Fraction(0)] * len(claims)
    for parts in (3, 1):
        order = list(range(len(claims)))
        chance.shuffle(order)
        for amount in order:
            part = chance_of(claims, amount)
            missing = 1 - sum(entry * chance_of(claims, at) for at, entry in enumerate(entries))
            if part:
                entries[amount] += min((most - entries[amount]) / chance.randint(1, parts), missing / part)
    return tuple(map(ratio, entries))


class ShortfallTest(Checks, unittest.TestCase):
    def test_examples(self):
        found = [shortfall((1, 1, 1, 1), (1, 2)), worst_view((1, 1), (1, 2)), kept((1, 1, 1), (0, 1, 1)),
                 best_edge((1, 1, 1), (0, 1, 1)), cover_above((1, 1, 1), 1)]
        self.same(found, [(5, 2), ((0, 1), (2, 1)), (2, 1), 1, (0, 0, 1)])

    def test_by_all_edges(self):
        for claims in SOME:
            for level in LEVELS:
                self.same(shortfall(claims, level), ratio(worst_by_edges(claims, level)))

    def test_worst_outcomes_one_by_one(self):
        # At a level of so many parts of all weights the worst outcomes are the last ones, one for each weight.
        for claims in ((1, 1, 1, 1), (2, 3, 0, 5), (7, 1, 1, 1), (0, 2, 1, 1), (1, 0, 0, 7)):
            every = [amount for amount, weight in enumerate(claims) for _ in range(weight)]
            for left_out in range(len(every)):
                worst = every[left_out:]
                self.same(shortfall(claims, ratio(Fraction(left_out, len(every)))), ratio(Fraction(sum(worst), len(worst))))

    def test_edges(self):
        for claims in SOME:
            self.same(shortfall(claims, (0, 1)), ratio(mean(claims)))
        self.same(shortfall((1000, 1), (999, 1000)), ratio(Fraction(1000, 1001)))
        self.same(shortfall((998, 1), (998, 999)), (1, 1))
        self.same(shortfall((998, 1), (997, 998)), ratio(Fraction(998, 999)))
        # Half of the chance of the amount 2 is needed for the worst three eighths.
        self.same(shortfall((1, 1, 1, 1), (5, 8)), (8, 3))
        self.same(worst_view((1, 1, 1, 1), (5, 8)), ((0, 1), (0, 1), (4, 3), (8, 3)))


class ViewTest(Checks, unittest.TestCase):
    def test_worst_views(self):
        for claims in SOME:
            for level in LEVELS:
                view = worst_view(claims, level)
                self.assertTrue(is_worst_view(claims, level, view), (claims, level, view))
                self.assertEqual(view_sum(claims, view), fraction(shortfall(claims, level)))
                self.same(shows_view(claims, level, view), True)

    def test_no_view_has_a_greater_sum(self):
        chance = random.Random(91)
        shown = 0
        for claims in SOME:
            for level in LEVELS:
                for _ in range(5):
                    view = some_view(claims, level, chance)
                    self.assertLessEqual(view_sum(claims, view), fraction(shortfall(claims, level)))
                    self.same(shows_view(claims, level, view), is_worst_view(claims, level, view))
                    shown += shows_view(claims, level, view)
        self.assertGreater(shown, 50)

    def test_views_made_by_hand(self):
        claims, level = (1, 0, 2, 1), (1, 2)
        wanted = {
            ((0, 1), (0, 1), (1, 1), (2, 1)): True,
            ((0, 1), (2, 1), (1, 1), (2, 1)): True,
            ((0, 1), (1, 3), (1, 1), (2, 1)): True,
            ((0, 1), (5, 2), (1, 1), (2, 1)): False,
            ((0, 1), (-1, 2), (1, 1), (2, 1)): False,
            ((1, 1), (0, 1), (1, 2), (2, 1)): False,
            ((2, 1), (0, 1), (0, 1), (2, 1)): False,
            ((0, 1), (0, 1), (2, 1), (0, 1)): False,
            ((0, 1), (0, 1), (1, 2), (3, 1)): False,
            ((0, 1), (0, 1), (1, 1), (1, 1)): False,
            ((0, 1), (0, 1), (2, 1), (2, 1)): False,
            ((-1, 1), (0, 1), (3, 2), (2, 1)): False,
            ((-3, 1), (0, 1), (5, 2), (2, 1)): False,
            ((1, 1), (1, 1), (1, 1), (1, 1)): False,
        }
        for value, shown in wanted.items():
            self.same(shows_view(claims, level, value), shown)
            self.assertEqual(is_worst_view(claims, level, value), shown)
        self.same(shows_view(claims, (0, 1), ((1, 1),) * 4), True)
        self.same(shows_view(claims, (0, 1), ((1, 1), (0, 1), (1, 1), (1, 1))), True)
        self.same(shows_view((5,), (1, 2), ((1, 1),)), True)
        self.same(shows_view((5,), (1, 2), ((2, 1),)), False)
        # This sum is right, and each entry is, but for the sum of the chances.
        self.same(shows_view((1, 1, 1), (1, 3), ((1, 1), (0, 1), (3, 2))), False)
        self.same(shows_view((1, 1, 1), (1, 3), ((0, 1), (3, 2), (3, 2))), True)
        self.same(shows_view((1, 1, 1), (1, 3), ((1, 1), (3, 2), (3, 2))), False)

    def test_values_of_every_kind(self):
        claims, level = (1, 0, 2, 1), (1, 2)
        view = worst_view(claims, level)
        for value in [*ANYTHING, *[(value,) * 4 for value in ANYTHING], list(view), view[:3], (*view, (0, 1)), (view,), view[::-1]]:
            with self.subTest(value=short(value)):
                self.same(shows_view(claims, level, value), is_worst_view(claims, level, value))
                self.assertFalse(is_worst_view(claims, level, value))
        for path in places(view):
            for value in ANYTHING:
                changed = replaced(view, path, value)
                self.same(shows_view(claims, level, changed), is_worst_view(claims, level, changed))


def covers_of(claims):
    return itertools.product(*[range(amount + 1) for amount in range(len(claims))])


def cost_of(claims, cover):
    return sum(chance * cover[amount] for amount, chance in outcomes(claims))


class CoverTest(Checks, unittest.TestCase):
    def test_kept_weight_by_weight(self):
        chance = random.Random(92)
        for claims in SOME:
            covers = [tuple(chance.randint(0, amount) for amount in range(len(claims))) for _ in range(20)]
            covers += [tuple(range(len(claims))), (0,) * len(claims)]
            for cover in covers:
                every = [amount - cover[amount] for amount, weight in enumerate(claims) for _ in range(weight)]
                wanted = tuple(every.count(amount) for amount in range(max(every) + 1))
                self.same(kept(claims, cover), wanted)

    def test_kept_edges(self):
        self.same(kept((1, 2, 3), (0, 0, 0)), (1, 2, 3))
        self.same(kept((1, 2, 3), (0, 1, 2)), (6,))
        self.same(kept((1, 2, 3), (0, 1, 0)), (3, 0, 3))
        self.same(kept((1, 2, 0, 3), (0, 0, 0, 2)), (1, 5))
        self.same(kept((1, 0, 0, 3), (0, 0, 1, 0)), (1, 0, 0, 3))
        self.same(kept((5,), (0,)), (5,))
        self.same(kept((1000,) * 13, tuple(range(13))), (13000,))
        self.same(kept((0, 0, 4), (0, 1, 1)), (0, 4))

    def test_covers_above(self):
        for claims in SOME:
            for edge in range(21):
                self.same(cover_above(claims, edge), tuple(max(amount - edge, 0) for amount in range(len(claims))))
            self.same(kept(claims, cover_above(claims, 0)), (sum(claims),))
            self.same(kept(claims, cover_above(claims, 20)), claims)
            self.same(kept(claims, cover_above(claims, len(claims) - 1)), claims)

    def test_best_edges(self):
        chance = random.Random(93)
        for claims in SOME:
            covers = [tuple(chance.randint(0, amount) for amount in range(len(claims))) for _ in range(20)]
            covers += [cover_above(claims, edge) for edge in range(14)]
            for cover in covers:
                cost = cost_of(claims, cover)
                wanted = next(edge for edge in range(21) if cost_of(claims, cover_above(claims, edge)) <= cost)
                self.same(best_edge(claims, cover), wanted)
            self.same(best_edge(claims, (0,) * len(claims)), len(claims) - 1)
            self.same(best_edge(claims, tuple(range(len(claims)))), 0)
        # Nobody has the claims that this one pays for.
        self.same(best_edge((1, 0, 0, 3), (0, 1, 2, 0)), 3)
        self.same(best_edge((5,), (0,)), 0)

    def test_borch_arrow(self):
        compared = 0
        for claims in ((1, 1, 1, 1), (3, 2, 0, 1), (1, 0, 2, 1, 1), (2, 1, 0, 0, 3), (0, 1, 1, 1)):
            best = {cost_of(claims, cover_above(claims, edge)): cover_above(claims, edge) for edge in range(len(claims))}
            for cover in covers_of(claims):
                same_cost = best.get(cost_of(claims, cover))
                if same_cost is not None:
                    compared += 1
                    self.assertTrue(is_safer(kept(claims, same_cost), kept(claims, cover)))
        self.assertGreater(compared, 60)


class ErrorsTest(Checks, unittest.TestCase):
    good = (1, 0, 3)

    def test_wrong_claims(self):
        for function, rest in ((shortfall, [(1, 2)]), (worst_view, [(1, 2)]), (shows_view, [(1, 2), None]),
                               (kept, [(0, 1, 0)]), (cover_above, [1]), (best_edge, [(0, 1, 0)])):
            self.refuses_claims(function, [self.good, *rest], 0)
            self.refuses_claims(function, [self.good, *(None for _ in rest)], 0)

    def test_wrong_levels(self):
        for function, rest in ((shortfall, []), (worst_view, []), (shows_view, [()])):
            self.refuses(function, [self.good, (0, 1), *rest], 1, BadChance, is_level)
            for level in ((1, 1), (1, 1001), (1000, 1001), (-1, 1000), (3, 2), (2, 4), [1, 2]):
                self.is_told(BadChance, function, self.good, level, *rest)
        for function in (shortfall, worst_view):
            self.first_error_wins(function, [self.good, (0, 1)], [((1, 0), BadClaims), ((1, 1), BadChance)])
        self.is_told(BadClaims, shows_view, (0,), (1, 1), worst_view(self.good, (1, 2)))
        self.is_told(BadChance, shows_view, self.good, (1, 1), worst_view(self.good, (1, 2)))

    def is_cover(self, value):
        return type(value) is tuple and len(value) == 3 and all(is_int(paid, 0, amount) for amount, paid in enumerate(value))

    def test_wrong_covers(self):
        for function in (kept, best_edge):
            self.refuses(function, [self.good, (0, 1, 0)], 1, BadCover, self.is_cover)
            for path in places((0, 1, 2)):
                for value in ANYTHING:
                    cover = replaced((0, 1, 2), path, value)
                    if not self.is_cover(cover):
                        self.is_told(BadCover, function, self.good, cover)
            for cover in ((0, 1), (0, 1, 2, 0), (1, 1, 1), (0, 2, 0), (0, 0, 3), (0, -1, 0), (-1, 0, 0), (0, True, 1),
                          (False, 0, 0), [0, 1, 2], (), (0, 0, -1)):
                self.is_told(BadCover, function, self.good, cover)
            self.first_error_wins(function, [self.good, (0, 0, 0)], [((), BadClaims), ((0, 2, 0), BadCover)])

    def test_wrong_edges(self):
        self.refuses(cover_above, [self.good, 0], 1, BadTime, is_time(0, 20))
        self.first_error_wins(cover_above, [self.good, 0], [((), BadClaims), (21, BadTime)])

    def test_arguments_stay(self):
        self.keeps_arguments(shortfall, self.good, (1, 2))
        view = self.keeps_arguments(worst_view, self.good, (1, 2))
        self.keeps_arguments(shows_view, self.good, (1, 2), view)
        self.keeps_arguments(shows_view, self.good, (1, 2), [[0, 1], {"a": (1, 2)}, None])
        self.keeps_arguments(kept, self.good, (0, 1, 1))
        self.keeps_arguments(cover_above, self.good, 1)
        self.keeps_arguments(best_edge, self.good, (0, 1, 1))


if __name__ == "__main__":
    unittest.main()
