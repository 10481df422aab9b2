"""Point 8: payments that are spread."""

import itertools
import random
import unittest
from fractions import Fraction

from actuarium.errors import BadPayments, BadRate, NotPlain
from actuarium.shields import is_shield, mean_time, shield_paper, shows_split
from tests.support import ANYTHING, Checks, fraction, grown, is_payments, is_plain, is_rate, is_ratio, ratio, value_of

RATES = [(0, 1), (1, 1), (-1, 2), (1, 2), (1, 10), (-1, 3)]


def values(payments, rate):
    return [grown(entry, rate, -time) for time, entry in enumerate(payments)]


def above(payments, rate, edge):
    return sum(value * max(0, time - edge) for time, value in enumerate(values(payments, rate)))


def flaw(one, other, rate):
    """Return what shield_paper has to return if there is no split, None if there is one."""
    if sum(values(one, rate)) != sum(values(other, rate)):
        return ("sum",)
    if above(one, rate, 0) != above(other, rate, 0):
        return ("mean",)
    for edge in range(-3, 45):
        if above(one, rate, edge) < above(other, rate, edge):
            return ("bend", edge)
    return None


def is_split(one, other, rate, value):
    """Tell slowly whether a value is a split; it is taken apart without any help of the package."""
    if type(value) is not tuple or any(type(triple) is not tuple or len(triple) != 3 for triple in value):
        return False
    for start, goal, part in value:
        if type(start) is not int or type(goal) is not int or not is_ratio(part) or part[0] <= 0:
            return False
        if start not in range(len(other)) or goal not in range(len(one)):
            return False
    pairs = [triple[:2] for triple in value]
    if pairs != sorted(pairs) or len(set(pairs)) < len(pairs):
        return False
    given = {start: [(goal, fraction(part)) for begin, goal, part in value if begin == start] for start in range(40)}
    wanted = values(other, rate) + [0] * 40
    for start, parts in given.items():
        if sum(part for _, part in parts) != wanted[start]:
            return False
        if sum(goal * part for goal, part in parts) != start * wanted[start]:
            return False
    wanted = values(one, rate) + [0] * 40
    return all(sum(fraction(part) for _, end, part in value if end == goal) == wanted[goal] for goal in range(40))


def spread(other, rate, chance, steps):
    """Spread payments: parts of one value go to an earlier and to a later time, such that all stay integers."""
    one, growth = list(other), 1 + fraction(rate)
    for _ in range(steps):
        time = chance.randrange(1, len(one) - 1)
        early, late = chance.randint(1, time), chance.randint(1, len(one) - 1 - time)
        # At these two times late and early parts of the value arrive, of early + late in all.
        for amount in (one[time], one[time] // 2, one[time] // 3, 16, 6):
            before = Fraction(amount) * late / (early + late) / growth**early
            behind = Fraction(amount) * early / (early + late) * growth**late
            whole = before.denominator == behind.denominator == 1
            small = one[time - early] + before <= 10**6 and one[time + late] + behind <= 10**6
            if whole and small and 0 < amount <= one[time]:
                one[time] -= amount
                one[time - early] += int(before)
                one[time + late] += int(behind)
                break
    return tuple(one)


class MeanTest(Checks, unittest.TestCase):
    def test_examples(self):
        found = [mean_time((0, 1, 1), (0, 1)), shield_paper((1, 0, 1), (0, 2), (0, 1)),
                 shield_paper((0, 2), (1, 0, 1), (0, 1))]
        self.same(found, [(3, 2), ((1, 0, (1, 1)), (1, 2, (1, 1))), ('bend', 1)])

    def test_mean_times(self):
        chance = random.Random(9)
        for rate in [*RATES, (1000, 1), (-999, 1000)]:
            for many in (1, 2, 5, 40):
                payments = tuple(chance.randint(0, 10**6) for _ in range(many))
                wanted = above(payments, rate, 0) / sum(values(payments, rate))
                self.same(mean_time(payments, rate), ratio(wanted))

    def test_edges(self):
        self.same(mean_time((5,), (1, 10)), (0, 1))
        self.same(mean_time((0,) * 39 + (10**6,), (-999, 1000)), (39, 1))
        self.same(mean_time((0, 0, 7, 0), (1, 3)), (2, 1))


class PaperTest(Checks, unittest.TestCase):
    def agrees(self, one, other, rate):
        wanted = flaw(one, other, rate)
        paper = shield_paper(one, other, rate)
        self.same(is_shield(one, other, rate), wanted is None)
        if wanted is not None:
            self.same(paper, wanted)
            self.same(shows_split(one, other, rate, paper), False)
            return None
        self.assertTrue(is_split(one, other, rate, paper), (one, other, rate, paper))
        self.same(shows_split(one, other, rate, paper), True)
        return paper

    def test_all_short_payments(self):
        shields = 0
        plain = [payments for many in range(1, 5) for payments in itertools.product((0, 1, 2), repeat=many)]
        plain = [payments for payments in plain if is_plain(payments)]
        for one, other in itertools.product(plain, repeat=2):
            if sum(one) == sum(other):
                shields += self.agrees(one, other, (0, 1)) is not None
        self.assertGreater(shields, 250)

    def test_spread_payments(self):
        chance = random.Random(10)
        for rate in [(0, 1), (1, 1), (-1, 2), (1, 2)]:
            for _ in range(40):
                other = tuple(chance.choice((0, 0, 6, 12, 24, 240, 720)) for _ in range(chance.randint(3, 9)))
                if not is_plain(other):
                    continue
                one = spread(other, rate, chance, chance.randint(0, 12))
                self.assertIsNotNone(self.agrees(one, other, rate))
                self.agrees(other, one, rate)
                for elsewhere in RATES:
                    self.assertGreaterEqual(value_of(one, elsewhere), value_of(other, elsewhere))

    def test_longest_payments(self):
        chance = random.Random(11)
        for rate in [(0, 1), (1, 1)]:
            other = tuple(chance.randint(1, 1000) * 720 for _ in range(40))
            one = spread(other, rate, chance, 300)
            self.assertIsNotNone(self.agrees(one, other, rate))
            self.agrees(other, one, rate)

    def test_shields_of_themselves(self):
        for rate in RATES:
            for payments in ((1,), (0, 3), (2, 0, 5), (1,) * 40, (0,) * 39 + (10**6,), (3, 0, 0)):
                self.same(is_shield(payments, payments, rate), True)
                self.agrees(payments, payments, rate)
                if len(payments) < 40:
                    self.assertIsNotNone(self.agrees((*payments, 0), payments, rate))
                    self.assertIsNotNone(self.agrees(payments, (*payments, 0), rate))

    def test_flaws_in_their_order(self):
        self.same(shield_paper((0, 1), (2,), (0, 1)), ("sum",))
        self.same(shield_paper((0, 1), (1,), (0, 1)), ("mean",))
        self.same(shield_paper((0, 2), (1, 0, 1), (0, 1)), ("bend", 1))
        self.same(shield_paper((0, 0, 2, 0, 0), (0, 1, 0, 1), (0, 1)), ("bend", 2))
        self.same(shield_paper((1, 0, 0, 2, 0, 0, 1), (1, 0, 1, 0, 1, 0, 1), (0, 1)), ("bend", 3))
        self.same(shield_paper((1, 0, 1, 0, 0, 2, 0, 1), (1, 0, 1, 0, 1, 0, 1, 1), (0, 1)), ("bend", 5))
        self.same(shield_paper((1,), (2,), (1, 1)), ("sum",))
        self.same(shield_paper((1,), (0, 2), (1, 1)), ("mean",))
        self.same(shield_paper((1, 1), (1, 1), (1, 1)), ((0, 0, (1, 1)), (1, 1, (1, 2))))


class SplitTest(Checks, unittest.TestCase):
    def setUp(self):
        self.one, self.other, self.rate = (2, 2, 0, 2, 2), (0, 2, 4, 2), (0, 1)
        self.paper = shield_paper(self.one, self.other, self.rate)

    def shows(self, value, wanted):
        self.same(shows_split(self.one, self.other, self.rate, value), wanted)
        self.assertEqual(is_split(self.one, self.other, self.rate, value), wanted)

    def test_any_split_is_shown(self):
        half, one, two = (1, 2), (1, 1), (2, 1)
        self.shows(self.paper, True)
        self.shows(((1, 1, two), (2, 0, two), (2, 4, two), (3, 3, two)), True)
        self.shows(((1, 0, one), (1, 1, half), (1, 3, half), (2, 0, one), (2, 1, half), (2, 3, half), (2, 4, two),
                    (3, 1, one), (3, 3, one)), False)
        self.shows(((1, 0, (2, 3)), (1, 1, one), (1, 3, (1, 3)), (2, 0, (4, 3)), (2, 1, (5, 6)), (2, 3, (1, 6)),
                    (2, 4, (5, 3)), (3, 1, (1, 6)), (3, 3, (3, 2)), (3, 4, (1, 3))), True)

    def test_bent_in_one_part(self):
        for at, (start, goal, part) in enumerate(self.paper):
            top, bottom = part
            bent = [(start + 1, goal, part), (start, goal + 1, part), (start - 1, goal, part), (start, goal - 1, part),
                    (start, goal, (top + bottom, bottom)), (start, goal, (-top, bottom)), (start, goal, (0, 1)),
                    (start, goal, (2 * top, 2 * bottom)), (start, goal, [top, bottom]), [start, goal, part],
                    (start, goal), (start, goal, part, part), (start, goal, top), (goal, start, part), None, True, 5,
                    (start, goal, (top, True)), (start == 1, goal, part), (start, goal == 1, part), (start, goal, None)]
            for triple in bent:
                value = (*self.paper[:at], triple, *self.paper[at + 1:])
                wanted = is_split(self.one, self.other, self.rate, value)
                self.shows(value, wanted)
                self.assertEqual(wanted, repr(value) == repr(self.paper))

    def test_joined_and_turned_around(self):
        self.shows(tuple(reversed(self.paper)), False)
        self.shows(list(self.paper), False)
        self.shows(self.paper + self.paper[-1:], False)
        self.shows(self.paper[:-1], False)
        self.shows(self.paper[1:], False)
        self.shows((), False)
        self.shows((self.paper,), False)
        self.shows({triple: True for triple in self.paper}, False)
        doubled = [(start, goal, ratio(fraction(part) / 2)) for start, goal, part in self.paper for _ in range(2)]
        self.shows(tuple(doubled), False)
        for at in range(1, len(self.paper)):
            swapped = list(self.paper)
            swapped[at - 1], swapped[at] = swapped[at], swapped[at - 1]
            self.shows(tuple(swapped), False)

    def test_parts_that_are_not_positive(self):
        whole = ((1, 1, (2, 1)), (2, 0, (2, 1)), (2, 4, (2, 1)), (3, 3, (2, 1)))
        self.shows(whole, True)
        self.shows(((1, 0, (0, 1)), *whole), False)
        self.shows((*whole, (3, 4, (0, 1))), False)
        # All sums and all mean times of these are right.
        self.shows(((1, 1, (2, 1)), (2, 0, (4, 3)), (2, 1, (1, 1)), (2, 3, (-1, 3)), (2, 4, (2, 1)), (3, 0, (2, 3)),
                    (3, 1, (-1, 1)), (3, 3, (7, 3))), False)

    def test_times_beyond(self):
        whole = ((1, 1, (2, 1)), (2, 0, (2, 1)), (2, 4, (2, 1)), (3, 3, (2, 1)))
        self.shows(((-1, -1, (1, 1)), *whole), False)
        self.shows((*whole, (4, 5, (1, 1))), False)
        self.shows((*whole, (40, 40, (1, 1))), False)
        self.same(shows_split((2,), (2,), (0, 1), ((0, 0, (2, 1)),)), True)
        self.same(shows_split((2, 0), (2,), (0, 1), ((0, 0, (2, 1)),)), True)
        self.same(shows_split((2,), (2,), (0, 1), ((0, 0, (2, 1)), (1, 1, (1, 1)))), False)
        self.same(shows_split((2, 1), (2,), (0, 1), ((0, 0, (2, 1)), (1, 1, (1, 1)))), False)
        self.same(shows_split((2,), (2, 1), (0, 1), ((0, 0, (2, 1)), (1, 1, (1, 1)))), False)
        self.same(shows_split((2, 1), (2, 1), (0, 1), ((-2, -2, (2, 1)), (1, 1, (1, 1)))), False)
        self.same(shows_split((1, 0, 1), (0, 2), (0, 1), ((1, 0, (1, 1)), (1, 2, (1, 1)))), True)
        self.same(shows_split((0, 2), (1, 0, 1), (0, 1), ((0, 1, (1, 1)), (2, 1, (1, 1)))), False)
        self.same(shows_split((0, 2), (1, 0, 1), (0, 1), ((1, 0, (1, 1)), (1, 2, (1, 1)))), False)

    def test_true_is_no_time(self):
        self.same(shows_split((0, 1), (0, 1), (0, 1), ((1, 1, (1, 1)),)), True)
        for triple in [(True, 1, (1, 1)), (1, True, (1, 1)), (1, 1, (True, 1)), (1, 1, (1, True))]:
            self.same(shows_split((0, 1), (0, 1), (0, 1), (triple,)), False)

    def test_values_of_every_kind(self):
        for value in ANYTHING + [(value,) for value in ANYTHING] + [(1, 0, value) for value in ANYTHING]:
            self.shows(value, False)
            self.shows((value,), False)


class ErrorsTest(Checks, unittest.TestCase):
    def test_wrong_values(self):
        plain = (0, 2)
        for function, rest in ((is_shield, []), (shield_paper, []), (shows_split, [()])):
            good = [(1, 0, 1), plain, (0, 1), *rest]
            for at in (0, 1):
                self.refuses(function, good, at, BadPayments, is_payments)
                for payments in ((), (0,), (-1,), (2, -1), (0,) * 40, (10**6, -10**6)):
                    self.is_told(NotPlain, function, *good[:at], payments, *good[at + 1:])
            self.refuses(function, good, 2, BadRate, is_rate)
        self.refuses(mean_time, [plain, (0, 1)], 0, BadPayments, is_payments)
        self.refuses(mean_time, [plain, (0, 1)], 1, BadRate, is_rate)
        for payments in ((), (0, 0), (1, -1), (-3,)):
            self.is_told(NotPlain, mean_time, payments, (0, 1))

    def test_leftmost_error(self):
        for payments, error in (((1, 2.5), BadPayments), ((-10**6 - 1,), BadPayments), ((-1, True), BadPayments),
                                ((0, 0), NotPlain)):
            fault, rate = (payments, error), ((5, 0), BadRate)
            self.first_error_wins(mean_time, [(1,), (0, 1)], [fault, rate])
            for second in ((None, BadPayments), ((1, -1), NotPlain)):
                self.first_error_wins(is_shield, [(1,), (1,), (0, 1)], [fault, second, rate])
                self.first_error_wins(shield_paper, [(1,), (1,), (0, 1)], [fault, second, rate])
        self.is_told(NotPlain, shows_split, (0,), None, None, None)
        self.is_told(BadPayments, shows_split, (1,), None, None, None)
        self.is_told(BadRate, shows_split, (1,), (1,), None, None)

    def test_arguments_stay(self):
        one, other = (1, 0, 1), (0, 2)
        self.keeps_arguments(mean_time, one, (1, 10))
        self.keeps_arguments(is_shield, one, other, (0, 1))
        paper = self.keeps_arguments(shield_paper, one, other, (0, 1))
        self.keeps_arguments(shows_split, one, other, (0, 1), paper)
        self.keeps_arguments(shows_split, one, other, (0, 1), [[1, 0, [1, 1]], {"a": (1, 2)}])


if __name__ == "__main__":
    unittest.main()
