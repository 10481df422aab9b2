"""Point 17: layers of claims, and orders between claims."""

import itertools
import random
import unittest
from fractions import Fraction

from actuarium.errors import BadClaims, BadTime
from actuarium.orders import is_safer, is_smaller, layer, safer_witness, shows_ladder, smaller_paper
from tests.support import (
    ANYTHING, Checks, above, fraction, is_claims, is_int, is_ratio, is_time, mean, outcomes, places, ratio, replaced, short)

LONG = (1, 0, 7, 0, 0, 1000, 3, 0, 2, 0, 0, 0, 999)
SOME = [(5,), (1,), (0, 1), (1, 1), (3, 0, 1), (1, 0, 3), (0, 0, 0, 2), (2, 3, 0, 5), (7, 1, 1, 1), LONG, (1,) * 13,
        (0,) * 12 + (1,)]
SMALL = [claims for many in (1, 2, 3) for claims in itertools.product((0, 1, 2), repeat=many) if is_claims(claims)]
SMALL += [(0, 0, 0, 1), (1, 0, 0, 1), (2, 0, 1, 1), (1, 1, 1, 1), (0, 2, 0, 1), (1, 2, 1)]


def chance_over(claims, edge):
    return sum((chance for amount, chance in outcomes(claims) if amount > edge), Fraction(0))


def first_edge(one, other):
    """The least amount that the first claims exceed with a greater chance, amount by amount."""
    return next((edge for edge in range(15) if chance_over(one, edge) > chance_over(other, edge)), None)


def is_ladder(one, other, value):
    """Tell slowly whether a value is a ladder; it is taken apart without any help of the package."""
    if type(value) is not tuple or any(type(rung) is not tuple or len(rung) != 3 for rung in value):
        return False
    for low, high, chance in value:
        if not is_int(low, 0) or not is_int(high, low) or not is_ratio(chance) or chance[0] <= 0:
            return False
    pairs = [rung[:2] for rung in value]
    if pairs != sorted(pairs) or len(set(pairs)) < len(pairs):
        return False
    lows, highs = {}, {}
    for low, high, chance in value:
        lows[low] = lows.get(low, 0) + fraction(chance)
        highs[high] = highs.get(high, 0) + fraction(chance)
    return lows == dict(outcomes(one)) and highs == dict(outcomes(other))


def pairs_of_claims():
    yield from itertools.product(SMALL, repeat=2)
    yield from itertools.product(SOME, repeat=2)
    chance = random.Random(81)
    for _ in range(150):
        many = chance.randint(1, 13)
        one = [chance.choice((0, 1, 2, 7)) for _ in range(many)]
        other = list(one)
        for _ in range(chance.randint(0, 6)):
            low = chance.randrange(many)
            other[low], moved = other[low] - min(1, other[low]), min(1, other[low])
            other[min(many - 1, low + chance.choice((0, 1, 1, 3, -1)))] += moved
        if is_claims(tuple(one)) and is_claims(tuple(other)):
            yield tuple(one), tuple(other)
            yield tuple(other), tuple(3 * weight for weight in one)


class LayerTest(Checks, unittest.TestCase):
    def test_examples(self):
        found = [layer((1, 1, 1, 1), 1, 2), smaller_paper((1, 1), (0, 1)), smaller_paper((0, 1), (1, 1)),
                 safer_witness((1, 0, 1), (0, 1))]
        self.same(found, [(1, 2), ((0, 1, (1, 2)), (1, 1, (1, 2))), ('above', 0), 1])

    def test_amount_by_amount(self):
        for claims in SOME:
            for low in range(21):
                for high in range(low, 21):
                    # Of each claim the units number low + 1 to high lie in the layer, as far as it has them.
                    part = sum(chance * len([unit for unit in range(low + 1, high + 1) if unit <= amount])
                               for amount, chance in outcomes(claims))
                    self.same(layer(claims, low, high), ratio(part))

    def test_edges(self):
        for claims in SOME:
            self.same(layer(claims, 0, 20), ratio(mean(claims)))
            for edge in range(21):
                self.same(layer(claims, edge, edge), (0, 1))
            self.same(layer(claims, 13, 20), (0, 1))
        self.same(layer((0,) * 12 + (1,), 11, 13), (1, 1))
        self.same(layer((1, 0, 3), 1, 20), (3, 4))


class SmallerTest(Checks, unittest.TestCase):
    def test_edge_by_edge(self):
        papers = edges = 0
        for one, other in pairs_of_claims():
            edge = first_edge(one, other)
            paper = smaller_paper(one, other)
            self.same(is_smaller(one, other), edge is None)
            if edge is None:
                papers += 1
                self.assertTrue(is_ladder(one, other, paper), (one, other, paper))
                self.same(shows_ladder(one, other, paper), True)
                self.same(is_safer(one, other), True)
            else:
                edges += 1
                self.same(paper, ("above", edge))
                self.same(shows_ladder(one, other, paper), False)
        self.assertGreater(papers, 300)
        self.assertGreater(edges, 300)

    def test_equal_claims(self):
        for claims in SOME:
            doubled = tuple(2 * weight for weight in claims)
            self.same(is_smaller(claims, claims), True)
            self.assertTrue(is_ladder(claims, claims, smaller_paper(claims, claims)))
            if is_claims(doubled):
                self.same([is_smaller(claims, doubled), is_smaller(doubled, claims)], [True, True])
                self.same(smaller_paper(claims, doubled), smaller_paper(doubled, claims))

    def test_unlike_lengths(self):
        self.same(smaller_paper((1,), (0, 0, 3)), ((0, 2, (1, 1)),))
        self.same(smaller_paper((0, 0, 3), (1,)), ("above", 0))
        self.same(smaller_paper((1, 0, 0, 1), (0, 1)), ("above", 1))
        self.same(smaller_paper((9, 0, 0, 1), (0, 1)), ("above", 1))
        self.same(smaller_paper((9, 0, 0, 1), (1, 0, 1)), ("above", 2))
        self.same(smaller_paper((0,) * 12 + (1,), (0,) * 11 + (1,)), ("above", 11))
        self.same(smaller_paper((1,) * 12 + (2,), (1,) * 13), ("above", 0))
        self.same(smaller_paper((2, 0, 1, 1), (1, 2, 0, 1)), ("above", 1))


class LadderTest(Checks, unittest.TestCase):
    one, other = (2, 0, 1, 1), (0, 2, 1, 0, 1)

    def setUp(self):
        self.paper = smaller_paper(self.one, self.other)

    def shows(self, value, wanted, one=None, other=None):
        one, other = one or self.one, other or self.other
        self.assertEqual(is_ladder(one, other, value), wanted, short(value))
        self.same(shows_ladder(one, other, value), wanted)

    def test_any_ladder_is_shown(self):
        half, fourth, eighth = (1, 2), (1, 4), (1, 8)
        self.shows(self.paper, True)
        self.shows(((0, 1, half), (2, 2, fourth), (3, 4, fourth)), True)
        self.shows(((0, 1, half), (2, 4, fourth), (3, 2, fourth)), False)
        other = (0, 1, 1, 1, 1)
        self.shows(((0, 1, fourth), (0, 2, fourth), (2, 3, fourth), (3, 4, fourth)), True, other=other)
        self.shows(((0, 1, fourth), (0, 2, fourth), (2, 4, fourth), (3, 3, fourth)), True, other=other)
        self.shows(((0, 1, fourth), (0, 2, fourth), (2, 3, eighth), (2, 4, eighth), (3, 3, eighth), (3, 4, eighth)), True,
                   other=other)
        self.shows(((0, 1, fourth), (0, 3, fourth), (2, 2, fourth), (3, 4, fourth)), True, other=other)
        self.shows(((0, 1, fourth), (0, 4, fourth), (2, 2, fourth), (3, 3, fourth)), True, other=other)
        # All sums are right here, but one chance is negative.
        self.shows(((0, 1, fourth), (0, 2, eighth), (0, 3, fourth), (0, 4, (-1, 8)), (2, 2, eighth), (2, 4, eighth),
                    (3, 4, fourth)), False, other=other)

    def test_bent_in_one_part(self):
        for at, (low, high, chance) in enumerate(self.paper):
            top, bottom = chance
            bent = [(low + 1, high, chance), (low - 1, high, chance), (low, high + 1, chance), (low, high - 1, chance),
                    (low, high, (top + bottom, bottom)), (low, high, (-top, bottom)), (low, high, (0, 1)),
                    (low, high, (2 * top, 2 * bottom)), (low, high, [top, bottom]), [low, high, chance], (low, high),
                    (low, high, chance, chance), (low, high, top), (high, low, chance), None, True, 5, (low, high, (top, True)),
                    (low == 1, high, chance), (low, high == 1, chance), (low, high, None), ("0", high, chance)]
            for rung in bent:
                value = replaced(self.paper, (at,), rung)
                self.shows(value, repr(value) == repr(self.paper))
        for path in places(self.paper):
            for value in ANYTHING:
                changed = replaced(self.paper, path, value)
                self.shows(changed, changed == self.paper and repr(changed) == repr(self.paper))

    def test_joined_and_turned_around(self):
        half = [(low, high, ratio(fraction(chance) / 2)) for low, high, chance in self.paper for _ in range(2)]
        for value in (tuple(reversed(self.paper)), list(self.paper), self.paper + self.paper[-1:], self.paper[:-1],
                      self.paper[1:], (), (self.paper,), dict.fromkeys(self.paper, True), tuple(half), None, "above", ("above", 0)):
            self.shows(value, False)
        for at in range(1, len(self.paper)):
            swapped = list(self.paper)
            swapped[at - 1], swapped[at] = swapped[at], swapped[at - 1]
            self.shows(tuple(swapped), False)
        self.same(shows_ladder(self.other, self.one, self.paper), False)
        turned = tuple(sorted((high, low, chance) for low, high, chance in self.paper))
        self.same(shows_ladder(self.other, self.one, turned), False)

    def test_amounts_beyond(self):
        whole = ((0, 0, (1, 1)),)
        self.same(shows_ladder((2,), (7,), whole), True)
        self.same(shows_ladder((2,), (7,), ((-1, 0, (1, 1)),)), False)
        self.same(shows_ladder((2,), (7,), ((-1, -1, (1, 1)), *whole)), False)
        self.same(shows_ladder((2,), (7,), (*whole, (1, 1, (1, 2)))), False)
        self.same(shows_ladder((2,), (7,), (*whole, (0, 1, (1, 2)))), False)
        self.same(shows_ladder((1, 1), (0, 1), ((0, 1, (1, 2)), (1, 1, (1, 2)))), True)
        self.same(shows_ladder((1, 1), (0, 1), ((0, 1, (1, 2)), (1, 2, (1, 2)))), False)
        self.same(shows_ladder((1, 1), (0, 1), ((0, 1, (1, 2)), (True, 1, (1, 2)))), False)
        # Sums of the second claims alone, or of the first ones alone, are right here.
        self.same(shows_ladder((1, 1), (0, 1), ((0, 1, (1, 4)), (1, 1, (3, 4)))), False)
        self.same(shows_ladder((1, 1), (0, 1, 1), ((0, 1, (1, 2)), (1, 1, (1, 2)))), False)

    def test_values_of_every_kind(self):
        for value in ANYTHING:
            for made in (value, (value,), [value], {"a": value}, (0, 1, value), ((0, 1, value),), (*self.paper, value)):
                self.shows(made, False)


class SaferTest(Checks, unittest.TestCase):
    def test_edge_by_edge(self):
        safer = 0
        for one, other in pairs_of_claims():
            witness = next((edge for edge in range(15) if above(one, edge) > above(other, edge)), None)
            self.same(safer_witness(one, other), witness)
            self.same(is_safer(one, other), witness is None)
            every = [Fraction(edge, 4) for edge in range(-8, 60)]
            self.assertEqual(witness is None, all(above(one, edge) <= above(other, edge) for edge in every))
            safer += witness is None
        self.assertGreater(safer, 300)

    def test_witnesses(self):
        self.same(safer_witness((1, 1), (0, 1)), None)
        self.same(safer_witness((0, 1), (1, 1)), 0)
        self.same(safer_witness((0, 1), (1, 0, 1)), None)
        self.same(safer_witness((1, 0, 1), (0, 1)), 1)
        self.same(safer_witness((1, 0, 0, 1), (0, 0, 1)), 2)
        self.same(safer_witness((9, 0, 0, 0, 1), (0, 1)), 1)
        self.same(safer_witness((999,) + (0,) * 11 + (1,), (0,) * 11 + (1,)), 11)
        self.same(safer_witness(LONG, LONG), None)

    def test_safer_but_not_smaller(self):
        self.same([is_safer((0, 1), (1, 0, 1)), is_smaller((0, 1), (1, 0, 1))], [True, False])


class ErrorsTest(Checks, unittest.TestCase):
    def test_wrong_claims(self):
        good = (1, 2, 3)
        self.refuses_claims(layer, [good, 0, 1], 0)
        for function in (is_smaller, smaller_paper, is_safer, safer_witness):
            for at in (0, 1):
                self.refuses_claims(function, [good, good], at)
            self.first_error_wins(function, [good, good], [((), BadClaims), ((1, 0), BadClaims)])
        for paper in ((), None, smaller_paper(good, good)):
            for at in (0, 1):
                self.refuses_claims(shows_ladder, [good, good, paper], at)

    def test_wrong_edges(self):
        good = (1, 2, 3)
        self.refuses(layer, [good, 0, 20], 1, BadTime, is_time(0, 20))
        self.refuses(layer, [good, 0, 20], 2, BadTime, is_time(0, 20))
        for low, high in ((2, 1), (20, 0), (21, 21), (-1, 3), (0, 21), (20, 19), (True, 2), (0, True), (21, 5), (None, 5)):
            self.is_told(BadTime, layer, good, low, high)
        self.first_error_wins(layer, [good, 0, 1], [((0,), BadClaims), (21, BadTime), (-1, BadTime)])
        self.same(layer(good, 20, 20), (0, 1))

    def test_arguments_stay(self):
        one, other = (1, 1), (0, 1)
        self.keeps_arguments(layer, one, 0, 3)
        for function in (is_smaller, smaller_paper, is_safer, safer_witness):
            self.keeps_arguments(function, one, other)
        self.keeps_arguments(shows_ladder, one, other, smaller_paper(one, other))
        self.keeps_arguments(shows_ladder, one, other, [[0, 1, [1, 2]], {"a": (1, 2)}])


if __name__ == "__main__":
    unittest.main()
