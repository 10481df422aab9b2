"""Point 29: facts and bounds."""

import itertools
import random
import unittest
from fractions import Fraction

from actuarium.bounds import bound_paper, shows_bound, worst_chances
from actuarium.errors import BadAmounts, BadFacts, BadTime
from tests.support import (
    ANYTHING, Checks, bad_thing, fraction, is_int, is_pair, is_ratio, is_row, is_time, ratio, ratios, replaced)

MEAN = ((0, 1, 2), (1, 1))
SQUARE = ((0, 1, 4), (3, 2))
PAID = (0, 0, 1)


def is_fact(top, value):
    if not is_pair(value) or not is_row(value[0], top + 1, -1000, 1000):
        return False
    return is_ratio(value[1]) and abs(fraction(value[1])) <= 1000 >= value[1][1]


def bad_index(top, value):
    return bad_thing(value, 0, 2, lambda thing: is_fact(top, thing))


def few_chances(top, facts):
    """Go through all chances of one, two or three amounts that fit and that no others of the same amounts do."""
    for one in range(top + 1):
        yield {one: Fraction(1)}
    for one, two in itertools.permutations(range(top + 1), 2):
        for values, mean in facts:
            if values[one] != values[two]:
                part = (fraction(mean) - values[two]) / (values[one] - values[two])
                yield {one: part, two: 1 - part}
    if len(facts) == 2:
        (first, first_mean), (second, second_mean) = facts
        for one, two, three in itertools.combinations(range(top + 1), 3):
            # Of the third amount what the first two leave: two equations, by determinants.
            a, b = first[one] - first[three], first[two] - first[three]
            c, d = second[one] - second[three], second[two] - second[three]
            e, f = fraction(first_mean) - first[three], fraction(second_mean) - second[three]
            if a * d != b * c:
                part, other = (e * d - b * f) / (a * d - b * c), (a * f - e * c) / (a * d - b * c)
                yield {one: part, two: other, three: 1 - part - other}


def fits(facts, chances):
    if sum(chances.values()) != 1 or min(chances.values()) < 0:
        return False
    return all(sum(part * values[amount] for amount, part in chances.items()) == fraction(mean) for values, mean in facts)


def greatest(top, facts, paid):
    """The greatest sum of all such choices, None if none fits."""
    sums = [sum(part * paid[amount] for amount, part in chances.items())
            for chances in few_chances(top, facts) if fits(facts, chances)]
    return max(sums, default=None)


def is_bound(top, facts, paid, value):
    """Tell slowly whether a value is a bound that is the greatest sum."""
    most = greatest(top, facts, paid)
    if most is None or type(value) is not tuple or len(value) != len(facts) + 1 or not all(map(is_ratio, value)):
        return False
    first, *others = map(fraction, value)
    for amount in range(top + 1):
        if first + sum(other * values[amount] for other, (values, _) in zip(others, facts)) < paid[amount]:
            return False
    return first + sum(other * fraction(mean) for other, (_, mean) in zip(others, facts)) == most


def drawn_facts(chance, top, many):
    """Facts that some chances fit."""
    while True:
        weights = [chance.choice((0, 1, 1, 2)) for _ in range(top + 1)]
        facts = []
        for _ in range(many):
            values = tuple(chance.choice((amount, amount * amount, chance.randint(-9, 9))) for amount in range(top + 1))
            facts.append((values, ratio(Fraction(sum(w * v for w, v in zip(weights, values)), max(1, sum(weights))))))
        if any(weights):
            return tuple(facts)


def drawn_paid(chance, top):
    edge = chance.randint(0, top)
    return tuple(chance.choice((max(0, amount - edge), int(amount >= edge), chance.randint(-9, 9))) for amount in range(top + 1))


class BoundsTest(Checks, unittest.TestCase):
    def test_examples(self):
        found = [worst_chances(2, (MEAN,), PAID), bound_paper(2, (MEAN,), PAID)]
        self.same(found, [((1, 2), (0, 1), (1, 2)), ((0, 1), (1, 2))])

    def both_agree(self, top, facts, paid):
        """The chances fit, the paper bounds, and their sums are those of all choices of a few amounts."""
        self.assertIs(bad_index(top, facts), False)
        chances, paper, most = worst_chances(top, facts, paid), bound_paper(top, facts, paid), greatest(top, facts, paid)
        self.assertEqual([chances is None, paper is None], [most is None] * 2, (top, facts, paid))
        if most is None:
            self.same(shows_bound(top, facts, paid, ((1000, 1),) + ((0, 1),) * len(facts)), False)
            return None
        self.assertEqual([type(chances), len(chances), type(paper)], [tuple, top + 1, tuple])
        self.assertTrue(all(map(is_ratio, chances)))
        self.assertTrue(fits(facts, dict(enumerate(map(fraction, chances)))), (top, facts, chances))
        self.assertEqual(sum(fraction(part) * value for part, value in zip(chances, paid)), most)
        self.assertTrue(is_bound(top, facts, paid, paper), (top, facts, paid, paper))
        self.same(shows_bound(top, facts, paid, paper), True)
        return most

    def test_facts_that_fit(self):
        chance = random.Random(291)
        for top, many, _ in itertools.product(range(1, 9), range(3), range(5)):
            self.assertIsNotNone(self.both_agree(top, drawn_facts(chance, top, many), drawn_paid(chance, top)))

    def test_any_facts(self):
        chance = random.Random(292)
        nothing = 0
        for top, many, _ in itertools.product(range(1, 9), (1, 2), range(5)):
            facts = tuple((values, ratio(fraction(mean) + chance.choice((0, 1, Fraction(-1, 2), 3))))
                          for values, mean in drawn_facts(chance, top, many))
            nothing += self.both_agree(top, facts, drawn_paid(chance, top)) is None
        self.assertGreater(nothing, 10)

    def test_by_hand(self):
        # Without facts the best paid amount gets all.
        self.same(worst_chances(2, (), (3, 7, 5)), ((0, 1), (1, 1), (0, 1)))
        self.same(bound_paper(2, (), (3, 7, 5)), ((7, 1),))
        self.assertEqual(self.both_agree(1, (), (-1000, -999)), -999)
        # The mean 1 and the mean square 3/2 on 0, 1 and 2: a quarter at both ends.
        self.same(worst_chances(2, (MEAN, SQUARE), (5, -5, 7)), ((1, 4), (1, 2), (1, 4)))
        self.same(bound_paper(2, (MEAN, SQUARE), (5, -5, 7)), ((5, 1), (-21, 1), (11, 1)))
        # A mean of 1 of amounts up to 4: at most a quarter is 4, at most one half is 2 or more.
        mean = (tuple(range(5)), (1, 1))
        self.assertEqual(self.both_agree(4, (mean,), (0, 0, 0, 0, 1)), Fraction(1, 4))
        self.assertEqual(self.both_agree(4, (mean,), (0, 0, 1, 1, 1)), Fraction(1, 2))
        self.assertEqual(self.both_agree(4, (mean,), (0, 0, 0, 1, 2)), Fraction(1, 2))

    def test_edges(self):
        # The same fact twice, and multiples of it.
        self.assertEqual(self.both_agree(2, (MEAN, MEAN), PAID), Fraction(1, 2))
        self.assertEqual(self.both_agree(2, (MEAN, ((0, 2, 4), (2, 1))), PAID), Fraction(1, 2))
        self.assertEqual(self.both_agree(2, (MEAN, ((1, 2, 3), (2, 1))), PAID), Fraction(1, 2))
        self.assertEqual(self.both_agree(2, (((5, 5, 5), (5, 1)), MEAN), PAID), Fraction(1, 2))
        # Two facts that contradict each other, and one that no chances fit.
        self.assertIsNone(self.both_agree(2, (MEAN, ((0, 1, 2), (1, 2))), PAID))
        self.assertIsNone(self.both_agree(2, (MEAN, ((1, 2, 3), (1, 1))), PAID))
        self.assertIsNone(self.both_agree(2, (MEAN, ((0, 1, 4), (1, 2))), PAID))
        self.assertIsNone(self.both_agree(2, (((5, 5, 5), (4, 1)),), PAID))
        self.assertIsNone(self.both_agree(2, (((0, 1, 2), (2001, 1000)),), PAID))
        self.assertIsNone(self.both_agree(2, (((0, 1, 2), (-1, 1000)),), PAID))
        # Means that are the least or the greatest value.
        self.assertEqual(self.both_agree(2, (((0, 1, 2), (0, 1)),), (3, 9, 9)), 3)
        self.assertEqual(self.both_agree(2, (((0, 1, 2), (2, 1)),), (9, 9, 3)), 3)
        self.assertEqual(self.both_agree(2, (((0, 1, 0), (0, 1)),), (3, 9, 4)), 4)
        self.assertEqual(self.both_agree(2, (((0, 1, 2), (0, 1)), ((7, 0, 0), (7, 1))), (3, 9, 9)), 3)
        self.assertEqual(self.both_agree(1, (((-1000, 1000), (1000, 1)),), (-1000, 1000)), 1000)
        self.assertEqual(self.both_agree(1, (((-1000, 1000), (-1000, 1)),), (-1000, 1000)), -1000)
        eight = (tuple(range(-4, 5)), (1, 1000))
        self.assertEqual(self.both_agree(8, (eight,), (0,) * 8 + (1000,)), Fraction(4001, 8))
        self.assertEqual(self.both_agree(8, (eight, (tuple(at * at for at in range(-4, 5)), (0, 1))), (0,) * 9), None)
        self.assertEqual(self.both_agree(8, (eight, (tuple(at * at for at in range(-4, 5)), (1, 1))), (0,) * 9), 0)


class JudgesTest(Checks, unittest.TestCase):
    def test_values_of_every_kind(self):
        self.judges(shows_bound, is_bound, ((0, 1), (1, 2)), 2, (MEAN,), PAID)
        self.judges(shows_bound, is_bound, ((7, 1),), 2, (), (3, 7, 5))
        self.judges(shows_bound, is_bound, ((5, 1), (-21, 1), (11, 1)), 2, (MEAN, SQUARE), (5, -5, 7))

    def test_other_bounds(self):
        chance = random.Random(293)
        told = {True: 0, False: 0}
        for top, many, _ in itertools.product(range(1, 7), range(3), range(4)):
            facts, paid = drawn_facts(chance, top, many), drawn_paid(chance, top)
            paper = bound_paper(top, facts, paid)
            others = [paper[:-1], (*paper, (0, 1)), ratios(2 * fraction(part) for part in paper), paper[::-1], ((0, 1),) * len(paper)]
            for at in range(len(paper)):
                for change in (1, -1, Fraction(1, 10**9), Fraction(-1, 1000)):
                    others.append(replaced(paper, (at,), ratio(fraction(paper[at]) + change)))
                    if at:
                        # Bent around the mean: the sum stays.
                        bent = replaced(paper, (at,), ratio(fraction(paper[at]) + change))
                        first = fraction(paper[0]) - change * fraction(facts[at - 1][1])
                        others.append(replaced(bent, (0,), ratio(first)))
            for value in [paper, *others]:
                shown = is_bound(top, facts, paid, value)
                self.same(shows_bound(top, facts, paid, value), shown)
                told[shown] += 1
        self.assertGreater(min(told.values()), 80)

    def test_by_hand(self):
        for value, shown in {((0, 1), (1, 2)): True, ((1, 2), (0, 1)): False, ((0, 1), (1, 1)): False, ((-1, 1), (1, 1)): False,
                             ((-1, 2), (1, 1)): False, ((1, 1), (-1, 2)): False}.items():
            self.same(shows_bound(2, (MEAN,), PAID, value), shown)
        # More than one paper: with the mean at the least value the slope is free above.
        at_least = ((0, 1, 2), (0, 1))
        for value, shown in {((0, 1), (1, 2)): True, ((0, 1), (7, 1)): True, ((0, 1), (1, 3)): False, ((1, 1), (0, 1)): False}.items():
            self.same(shows_bound(2, (at_least,), PAID, value), shown)
        # The same fact twice may be shared out in any way.
        for value, shown in {((0, 1), (1, 2), (0, 1)): True, ((0, 1), (0, 1), (1, 2)): True, ((0, 1), (9, 2), (-4, 1)): True,
                             ((0, 1), (1, 2), (1, 2)): False, ((0, 1), (1, 2)): False}.items():
            self.same(shows_bound(2, (MEAN, MEAN), PAID, value), shown)
        for value in ([(0, 1), (1, 2)], ((0, 1), (2, 4)), (0, (1, 2)), ((0, True), (1, 2)), ((False, 1), (1, 2)), ((0, 1), (1, 2), (0, 1))):
            self.same(shows_bound(2, (MEAN,), PAID, value), False)


class ErrorsTest(Checks, unittest.TestCase):
    calls = ((worst_chances, ()), (bound_paper, ()), (shows_bound, (((0, 1), (1, 2)),)))

    def test_wrong_tops(self):
        for function, rest in self.calls:
            # With another top the facts do not fit in, which counts as their error.
            self.refuses(function, [2, (MEAN,), PAID, *rest], 0, BadTime, is_time(1, 8))
            for top in (0, 9, -1, True, (2,)):
                self.is_told(BadTime, function, top, (MEAN,), PAID, *rest)
                self.is_told(BadTime, function, top, None, None, *rest)
            self.is_told(BadFacts, function, 3, (MEAN,), PAID, *rest, index=0)
            self.is_told(BadAmounts, function, 3, (), PAID, *rest)

    def test_wrong_facts(self):
        good = (MEAN, SQUARE)
        bad = [
            (((0, 1), (1, 1)),), (((0, 1, 2, 3), (1, 1)),), (((0, 1, 1001), (1, 1)),), (((0, -1001, 1), (1, 1)),), (([0, 1, 2], (1, 1)),),
            ([(0, 1, 2), (1, 1)],), (((0, 1, 2),),), (((0, 1, 2), (1, 1), 0),), (((0, 1, 2), (1001, 1)),), (((0, 1, 2), (-1001, 1)),),
            (((0, 1, 2), (1, 1001)),), (((0, 1, 2), (2, 2)),), (((0, 1, 2), 1),), (((0, True, 2), (1, 1)),), (((0, 1, 2), (True, 1)),),
            (MEAN,) * 3, MEAN, [MEAN], (MEAN, None), ((MEAN,),),
        ]
        changed = [replaced(good, path, value) for path in [(0,), (1,), (0, 0), (1, 1), (0, 0, 2), (1, 0, 0), (1, 1, 0), (0, 1, 1)]
                   for value in ANYTHING]
        refused = 0
        for value in [*ANYTHING, *bad, *changed]:
            index = bad_index(2, value)
            if index is not False:
                refused += 1
                for function, rest in self.calls:
                    self.is_told(BadFacts, function, 2, value, PAID, *rest, index=index)
                    self.is_told(BadFacts, function, 2, value, None, *rest, index=index)
        self.assertGreater(refused, 5 * len(ANYTHING))
        for value in bad:
            self.assertIsNot(bad_index(2, value), False)
        self.is_told(BadFacts, worst_chances, 2, (MEAN, ((0, 1), (1, 1))), PAID, index=1)
        self.is_told(BadFacts, worst_chances, 2, (None, None), PAID, index=0)
        self.is_told(BadFacts, worst_chances, 2, (None, None, None), PAID, index=None)
        self.assertIsNotNone(worst_chances(1, (((-1000, 1000), (1, 1000)), ((1000, -1000), (-1, 1000))), (1000, -1000)))

    def test_wrong_paid(self):
        for function, rest in self.calls:
            self.refuses(function, [2, (MEAN,), PAID, *rest], 2, BadAmounts, lambda value: is_row(value, 3, -1000, 1000))
            for at, value in itertools.product(range(3), ANYTHING):
                if not is_int(value, -1000, 1000):
                    self.is_told(BadAmounts, function, 2, (MEAN,), replaced(PAID, (at,), value), *rest)
            for bad in ((0, 1), (0, 1, 2, 3), (0, 1, 1001), (-1001, 0, 0), (0, 0, True), [0, 0, 1]):
                self.is_told(BadAmounts, function, 2, (MEAN,), bad, *rest)

    def test_leftmost_error(self):
        faults = [(0, BadTime), ((None,), BadFacts), ((), BadAmounts)]
        for function in (worst_chances, bound_paper):
            self.first_error_wins(function, [2, (MEAN,), PAID], faults)
        for value in (None, ((0, 1), (1, 2))):
            self.first_error_wins(lambda *told: shows_bound(*told, value), [2, (MEAN,), PAID], faults)

    def test_arguments_stay(self):
        for function, rest in self.calls:
            self.keeps_arguments(function, 2, (MEAN, SQUARE), PAID, *rest)
        self.keeps_arguments(shows_bound, 2, (MEAN,), PAID, [[(0, 1)], {"a": 1}])


if __name__ == "__main__":
    unittest.main()
