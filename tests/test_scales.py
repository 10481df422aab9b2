"""Points 30 and 31: scales, and the hunger for bonus."""

import itertools
import random
import unittest
from fractions import Fraction

from actuarium.errors import BadClaims, BadPrior, BadRate, BadScale, BadTime, NotWhole
from actuarium.scales import fair_levels, hunger, mean_level, steady_classes
from tests.support import (
    ANYTHING, Checks, fraction, grown, is_int, is_pair, is_rate, is_ratio, is_row, is_time, mean, outcomes, places, ratio,
    replaced, short)
from tests.test_learning import bad_index as bad_prior

SCALE = (((0, 1), (0, 1)), (10, 20))
THREE = (((0, 1, 2), (0, 2, 2), (1, 2, 2)), (50, 75, 130))
CIRCLE = (((1, 1), (2, 2), (3, 3), (0, 0)), (1, 2, 3, 6))
PRIOR = ((1, (1, 1)), (1, (3, 1)))
SCALES = [
    SCALE, THREE, CIRCLE, (((0, 1), (0, 1)), (0, 1000)), (((1, 0), (0, 1)), (7, 3)),
    (((0, 1, 1, 1), (0, 2, 2, 2), (1, 3, 3, 3), (2, 4, 4, 4), (3, 4, 4, 4)), (40, 50, 60, 80, 100)),
    (((0, 1, 3, 4), (0, 2, 4, 4), (1, 3, 4, 4), (2, 4, 4, 4), (3, 4, 4, 4)), (0, 0, 300, 999, 1000)),
]
COUNTS = [(1, 1), (3, 1), (1, 1, 1), (5, 3, 0, 2), (7, 0, 0, 0, 0, 1), (1000, 1, 1000), (1,) * 13]
RATES = [(0, 1), (1, 10), (1, 1), (-1, 4)]


def is_scale(value):
    if not is_pair(value) or type(value[0]) is not tuple or len(value[0]) not in range(2, 6):
        return False
    moves, levels = value
    sizes = {len(row) if type(row) is tuple else None for row in moves}
    if len(sizes) != 1 or not sizes <= {2, 3, 4}:
        return False
    return all(is_row(row, len(row), 0, len(moves) - 1) for row in moves) and is_row(levels, len(moves), 0, 1000)


def year_on(scale, counts, chances):
    """The chances of the classes a year later, from all claims of all classes."""
    moves = scale[0]
    found = [Fraction(0)] * len(moves)
    for chance, row in zip(chances, moves):
        for many, part in outcomes(counts):
            found[row[-1] if many >= len(row) else row[many]] += chance * part
    return found


def is_whole(scale, counts):
    """Tell by years, one by one, whether every class can be reached from every class."""
    many = len(scale[0])
    for start in range(many):
        chances, reached = [Fraction(at == start) for at in range(many)], set()
        for _ in range(many):
            chances = year_on(scale, counts, chances)
            reached |= {at for at, chance in enumerate(chances) if chance}
        if len(reached) < many:
            return False
    return True


def drawn_scale(chance):
    many, columns = chance.randint(2, 5), chance.randint(2, 4)
    moves = tuple(tuple(chance.randrange(many) for _ in range(columns)) for _ in range(many))
    return moves, tuple(chance.choice((0, 1000, chance.randint(0, 50))) for _ in range(many))


def drawn_counts(chance):
    return tuple(chance.choice((0, 1, 3, 50)) for _ in range(chance.randint(0, 5))) + (chance.choice((1, 7, 1000)),)


def missed(scale, prior, levels):
    """The expected square of what the levels miss the mean numbers by."""
    whole = sum(weight for weight, _ in prior)
    found = Fraction(0)
    for weight, counts in prior:
        for chance, level in zip(map(fraction, steady_classes(scale, counts)), levels):
            found += Fraction(weight, whole) * chance * (level - mean(counts)) ** 2
    return found


def cost_with(scale, claims, rate, later, place, edge):
    """What is expected to be paid if the claims of this year are reported from an amount on."""
    moves, levels = scale
    end = Fraction(0)
    for amount, chance in outcomes(claims):
        if amount and amount >= edge:
            end += chance * later[moves[place][1]]
        else:
            end += chance * (amount + later[moves[place][0]])
    return levels[place] + grown(end, rate, -1)


def hunger_by_edges(scale, claims, years, rate):
    """The least costs of all amounts from which on claims are reported, year by year, and the first amount reported."""
    moves = scale[0]
    later, found = [Fraction(0)] * len(moves), [tuple(((0, 1), None) for _ in moves)]
    for _ in range(years):
        row = []
        for place in range(len(moves)):
            edges = list(range(1, len(claims) + 1))
            costs = [cost_with(scale, claims, rate, later, place, edge) for edge in edges]
            worth_it = [amount for amount, _ in outcomes(claims)
                        if amount and later[moves[place][1]] <= amount + later[moves[place][0]]]
            row.append((min(costs), min(worth_it, default=None)))
            # The first amount that is worth reporting is the first one of a best edge, and what is below it is paid.
            best = [edge for edge, cost in zip(edges, costs) if cost == min(costs)]
            assert (row[-1][1] or len(claims)) in best
        found.append(tuple((ratio(cost), first) for cost, first in row))
        later = [cost for cost, _ in row]
    return tuple(found)


def least_of_all_choices(scale, claims, years, rate, start):
    """The least expected cost of all choices, for each year, class and amount, whether to report it."""
    moves, levels = scale
    amounts = [amount for amount, _ in outcomes(claims) if amount]
    spots = list(itertools.product(range(years), range(len(moves)), amounts))
    found = []
    for choice in itertools.product((False, True), repeat=len(spots)):
        reported = dict(zip(spots, choice))
        chances, cost = {start: Fraction(1)}, Fraction(0)
        for year in range(years):
            following = {}
            for place, chance in chances.items():
                cost += grown(chance * levels[place], rate, -year)
                for amount, part in outcomes(claims):
                    tells = amount > 0 and reported[year, place, amount]
                    if not tells:
                        cost += grown(chance * part * amount, rate, -year - 1)
                    goal = moves[place][1 if tells else 0]
                    following[goal] = following.get(goal, Fraction(0)) + chance * part
            chances = following
        found.append(cost)
    return min(found)


class ScalesTest(Checks, unittest.TestCase):
    def test_examples(self):
        found = [steady_classes(SCALE, (3, 1)), mean_level(SCALE, (3, 1)), fair_levels(SCALE, PRIOR),
                 hunger(SCALE, (1, 0, 1), 1, (0, 1))[1]]
        self.same(found, [((3, 4), (1, 4)), (25, 2), ((7, 20), (5, 12)), (((10, 1), 2), ((20, 1), 2))])

    def check_steady(self, scale, counts):
        if not is_whole(scale, counts):
            self.is_told(NotWhole, steady_classes, scale, counts)
            self.is_told(NotWhole, mean_level, scale, counts)
            return False
        found = steady_classes(scale, counts)
        self.assertEqual([type(found), len(found)], [tuple, len(scale[0])])
        self.assertTrue(all(is_ratio(chance) and chance[0] > 0 for chance in found))
        chances = list(map(fraction, found))
        self.assertEqual(sum(chances), 1)
        self.assertEqual(year_on(scale, counts, chances), chances)
        self.same(mean_level(scale, counts), ratio(sum(chance * level for chance, level in zip(chances, scale[1]))))
        return True

    def test_a_year_changes_nothing(self):
        for scale, counts in itertools.product(SCALES, COUNTS):
            self.assertTrue(is_scale(scale))
            self.check_steady(scale, counts)

    def test_drawn_scales(self):
        chance = random.Random(301)
        whole = sum(self.check_steady(drawn_scale(chance), drawn_counts(chance)) for _ in range(300))
        self.assertGreater(whole, 80)
        self.assertLess(whole, 220)

    def test_by_hand(self):
        # A claim in three years of four; up one class after a year without, to the last one after one.
        self.same(steady_classes((((0, 2), (0, 2), (1, 2)), (1, 2, 3)), (3, 1)), ((9, 16), (3, 16), (1, 4)))
        self.same(mean_level((((0, 2), (0, 2), (1, 2)), (16, 32, 48)), (3, 1)), (27, 1))
        # A circle: every class as often as every other one, whatever the claims.
        for counts in COUNTS + [(1,), (0, 1)]:
            self.same(steady_classes(CIRCLE, counts), ((1, 4),) * 4)
            self.same(mean_level(CIRCLE, counts), (3, 1))
        # To and fro, only by claims: without them nobody moves.
        there = (((0, 1), (1, 0)), (0, 6))
        self.same(steady_classes(there, (1, 1)), ((1, 2), (1, 2)))
        self.same(steady_classes(there, (0, 1)), ((1, 2), (1, 2)))
        self.is_told(NotWhole, steady_classes, there, (1,))

    def test_columns_and_counts(self):
        # Two claims or more count alike in two columns, and three or more in three.
        self.same(steady_classes(SCALE, (3, 1)), steady_classes(SCALE, (3, 0, 0, 1)))
        self.same(steady_classes(SCALE, (6, 1, 1)), ((3, 4), (1, 4)))
        self.same(steady_classes(THREE, (3, 1, 1, 1)), steady_classes(THREE, (3, 1, 2)))
        self.assertNotEqual(steady_classes(THREE, (3, 1, 1)), steady_classes(THREE, (3, 2)))
        # Always a claim: the first class is never reached again.
        self.is_told(NotWhole, steady_classes, SCALE, (0, 1))
        self.is_told(NotWhole, steady_classes, SCALE, (0, 0, 5))
        # Never one: the second class is never reached.
        self.is_told(NotWhole, mean_level, SCALE, (1,))
        # Classes that nobody enters, and two parts that do not meet.
        self.is_told(NotWhole, steady_classes, (((0, 1), (0, 1), (0, 1)), (1, 2, 3)), (1, 1))
        self.is_told(NotWhole, steady_classes, (((1, 1), (0, 0), (3, 3), (2, 2)), (1, 2, 3, 4)), (1, 1))
        self.is_told(NotWhole, steady_classes, (((0, 0), (0, 0)), (1, 2)), (1, 1))
        self.is_told(NotWhole, steady_classes, (((0, 1), (1, 1)), (1, 2)), (1, 1))

    def test_fair_levels_term_by_term(self):
        chance = random.Random(302)
        told = {True: 0, False: 0}
        for at in range(150):
            scale = SCALES[at % 7] if at % 2 else drawn_scale(chance)
            prior = tuple((chance.choice((1, 2, 1000)), drawn_counts(chance)) for _ in range(chance.randint(1, 5)))
            whole = all(is_whole(scale, counts) for _, counts in prior)
            told[whole] += 1
            if not whole:
                self.is_told(NotWhole, fair_levels, scale, prior)
                continue
            above, below = [Fraction(0)] * len(scale[0]), [Fraction(0)] * len(scale[0])
            for weight, counts in prior:
                for place, part in enumerate(map(fraction, steady_classes(scale, counts))):
                    above[place] += weight * part * mean(counts)
                    below[place] += weight * part
            found = fair_levels(scale, prior)
            self.assertEqual(type(found), tuple)
            self.same(found, tuple(ratio(one / other) for one, other in zip(above, below)))
        self.assertGreater(min(told.values()), 30)

    def test_norbergs_sentence(self):
        for scale in SCALES:
            for prior in (PRIOR, ((5, (9, 1)), (3, (4, 2, 1)), (1, (1, 1, 1, 1))), ((1, (2, 1)),)):
                fair = list(map(fraction, fair_levels(scale, prior)))
                least = missed(scale, prior, fair)
                for at, change in itertools.product(range(len(fair)), (Fraction(1, 1000), Fraction(-1, 1000), 1, -1)):
                    other = fair[:]
                    other[at] += change
                    self.assertGreater(missed(scale, prior, other), least)

    def test_fair_levels_by_hand(self):
        # Both kinds are in the second class in a year behind a claim: 1/2 and 1/4, of means 1/2 and 1/4.
        self.same(fair_levels(SCALE, PRIOR), ((7, 20), (5, 12)))
        self.same(fair_levels(SCALE, ((7, (3, 1)),)), ((1, 4), (1, 4)))
        self.same(fair_levels(CIRCLE, ((1, (1,)), (3, (0, 0, 1)))), ((3, 2),) * 4)
        self.is_told(NotWhole, fair_levels, SCALE, ((1, (1, 1)), (1, (1,))))
        self.is_told(NotWhole, fair_levels, SCALE, ((1, (0, 1)), (1, (1, 1))))


class HungerTest(Checks, unittest.TestCase):
    def test_all_edges_year_by_year(self):
        chance = random.Random(311)
        for at in range(80):
            scale = SCALES[at % 7] if at % 2 else drawn_scale(chance)
            claims = chance.choice([(1,), (0, 1), (1, 1), (1, 0, 1), (2, 0, 3, 0, 1), (1,) * 13, drawn_counts(chance)])
            for rate in RATES:
                years = chance.choice((0, 1, 2, 3, 8))
                self.same(hunger(scale, claims, years, rate), hunger_by_edges(scale, claims, years, rate))

    def test_all_choices(self):
        for scale, claims, years in ((SCALE, (1, 1), 4), (SCALE, (2, 0, 1), 3), (SCALE, (1, 1, 0, 0, 1), 2), (THREE, (5, 1), 3),
                                     ((((0, 1), (0, 1)), (3, 5)), (1, 1, 1), 2), (CIRCLE, (1, 2), 2),
                                     ((((1, 0), (0, 1)), (7, 3)), (1, 4), 4)):
            for rate in RATES:
                row = hunger(scale, claims, years, rate)[years]
                for place in range(len(scale[0])):
                    self.same(row[place][0], ratio(least_of_all_choices(scale, claims, years, rate, place)))

    def test_by_hand(self):
        # The last year: what comes later costs nothing, so all is reported. The year before: reporting moves to the
        # second class, which costs 10 more; a claim of 2 is paid, half of them: 10 + (10 + 12) / 2 and 20 + 11.
        found = hunger(SCALE, (1, 0, 1), 2, (0, 1))
        self.same(found, ((((0, 1), None),) * 2, (((10, 1), 2), ((20, 1), 2)), (((21, 1), None), ((31, 1), None))))
        # At the rate 1: 10 + (10 + 12) / 2 / 2.
        self.same(hunger(SCALE, (1, 0, 1), 2, (1, 1))[2], (((31, 2), None), ((51, 2), None)))

    def test_ties_are_reported(self):
        # The second class costs 2 more in the last year: a claim of 2 may as well be reported, one of 1 is paid.
        scale = (((0, 1), (0, 1)), (10, 12))
        self.same(hunger(scale, (1, 0, 1), 2, (0, 1))[2], (((21, 1), 2), ((23, 1), 2)))
        self.same(hunger(scale, (1, 1, 1), 2, (0, 1))[2], (((21, 1), 2), ((23, 1), 2)))
        self.same(hunger(scale, (1, 1), 2, (0, 1))[2], (((41, 2), None), ((45, 2), None)))
        self.same(hunger(scale, (1, 1, 0, 1), 2, (0, 1))[2], (((21, 1), 3), ((23, 1), 3)))

    def test_edges(self):
        for years in range(9):
            found = hunger(SCALE, (1, 1), years, (1, 10))
            self.assertEqual([type(found), len(found)], [tuple, years + 1])
            self.same(found[0], (((0, 1), None),) * 2)
            self.same(found, hunger(SCALE, (1, 1), 8, (1, 10))[:years + 1])
        # No claims but of 0: nothing to report, and the best class costs 10 a year.
        wanted = ((((0, 1), None),) * 2, (((10, 1), None), ((20, 1), None)), (((20, 1), None), ((30, 1), None)))
        self.same(hunger(SCALE, (5,), 2, (0, 1)), wanted)
        # Always a claim of 12: it is worth 10 more in the year that follows.
        self.same(hunger(SCALE, (0,) * 12 + (1,), 2, (0, 1))[2], (((30, 1), 12), ((40, 1), 12)))
        # A scale on which a claim makes it cheaper, and one on which nothing moves.
        self.same(hunger((((1, 0), (1, 0)), (1, 9)), (1, 1), 2, (0, 1))[2], (((6, 1), 1), ((14, 1), 1)))
        self.same(hunger((((0, 0), (1, 1)), (5, 6)), (0, 1, 1), 2, (0, 1))[2], (((10, 1), 1), ((12, 1), 1)))
        # Columns for more claims do not matter, as there is one claim in a year.
        wide = (((0, 1, 0, 0), (0, 1, 0, 0)), (10, 20))
        self.same(hunger(wide, (1, 2, 3, 4), 5, (1, 10)), hunger(SCALE, (1, 2, 3, 4), 5, (1, 10)))


class ErrorsTest(Checks, unittest.TestCase):
    calls = ((steady_classes, ((3, 1),)), (mean_level, ((3, 1),)), (fair_levels, (PRIOR,)), (hunger, ((1, 0, 1), 1, (0, 1))))

    def test_wrong_scales(self):
        moves, levels = SCALE
        bad = [
            moves, (moves,), (moves, levels, ()), [moves, levels], (list(moves), levels), (moves, list(levels)),
            (moves[:1], levels[:1]), (moves[:1], levels), (((0, 0),), (10,)), (((0, 1),) * 6, (1,) * 6), (((0,), (1,)), levels),
            (((0,) * 5,) * 2, levels), (((0, 1), (0, 1, 1)), levels),
            (((0, 1, 1), (0, 1)), levels), (((0, 2), (0, 1)), levels), (((0, -1), (0, 1)), levels), (((0, True), (0, 1)), levels),
            (([0, 1], (0, 1)), levels), (moves, (10,)), (moves, (10, 20, 30)), (moves, (10, 1001)), (moves, (-1, 20)),
            (moves, (False, 20)), (moves, ((10, 1), 20)), ((), ()), (moves, ()), ((0, 1), levels), (levels, moves),
        ]
        for value in bad:
            self.assertFalse(is_scale(value))
        changed = [replaced(SCALE, path, value) for path in places(SCALE) for value in ANYTHING]
        refused = 0
        for value in [*ANYTHING, *bad, *changed]:
            if not is_scale(value):
                refused += 1
                for function, rest in self.calls:
                    with self.subTest(function=function.__name__, value=short(value)):
                        self.is_told(BadScale, function, value, *rest)
                        self.is_told(BadScale, function, value, *[None for _ in rest])
        self.assertGreater(refused, 5 * len(ANYTHING))
        five = (((0, 1, 2, 3), (1, 2, 3, 4), (2, 3, 4, 0), (3, 4, 0, 1), (4, 0, 1, 2)), (0, 1000, 0, 1000, 0))
        self.same(steady_classes(five, (1, 1, 1, 1)), ((1, 5),) * 5)

    def test_wrong_counts_claims_and_priors(self):
        for function, arguments in ((steady_classes, (SCALE, (3, 1))), (mean_level, (SCALE, (3, 1))),
                                    (hunger, (SCALE, (1, 1), 1, (0, 1)))):
            # Whole or not is asked behind the errors of all arguments.
            self.refuses_claims(function, arguments, 1)
        for value in ANYTHING:
            if bad_prior(value) is not False:
                self.is_told(BadPrior, fair_levels, SCALE, value, index=bad_prior(value))
            for path in places(PRIOR):
                changed = replaced(PRIOR, path, value)
                if bad_prior(changed) is not False:
                    self.is_told(BadPrior, fair_levels, SCALE, changed, index=bad_prior(changed))
        self.is_told(BadPrior, fair_levels, SCALE, ((1, (1,)), (1, ())), index=1)

    def test_wrong_years_and_rates(self):
        self.refuses(hunger, [SCALE, (1, 1), 1, (0, 1)], 2, BadTime, is_time(0, 8))
        self.refuses(hunger, [SCALE, (1, 1), 1, (0, 1)], 3, BadRate, is_rate)
        for years in (-1, 9, True, (1, 1)):
            self.is_told(BadTime, hunger, SCALE, (1, 1), years, (0, 1))
        self.assertTrue(is_int(hunger(SCALE, (1, 1), 1, (-999, 1000))[1][0][1]))

    def test_leftmost_error(self):
        bad = ((SCALE[0], (1,)), BadScale)
        for function in (steady_classes, mean_level):
            self.first_error_wins(function, [SCALE, (3, 1)], [bad, ((3, 0), BadClaims)])
        self.first_error_wins(fair_levels, [SCALE, PRIOR], [bad, ((PRIOR[0], None), BadPrior)])
        self.first_error_wins(hunger, [SCALE, (1, 1), 1, (0, 1)], [bad, ((), BadClaims), (9, BadTime), ((-1, 1), BadRate)])
        self.is_told(BadClaims, steady_classes, (((0, 0), (0, 0)), (1, 2)), (1, 0))

    def test_arguments_stay(self):
        for function, rest in self.calls:
            self.keeps_arguments(function, SCALE, *rest)


if __name__ == "__main__":
    unittest.main()
