"""Point 28: pools."""

import itertools
import random
import unittest
from fractions import Fraction

from actuarium.claims import mean_claim
from actuarium.errors import BadChance, BadMembers, BadOutcomes
from actuarium.pools import pool_shortfall, shares, shows_shares
from actuarium.shortfalls import shortfall
from tests.support import (
    ANYTHING, Checks, bad_thing, fraction, is_int, is_level, is_pair, is_ratio, is_row, ratio, ratios, replaced)

PAIR = ((1, (0, 4)), (1, (2, 0)))
THREE = ((2, (5, 0, 1)), (1, (0, 9, 1)), (3, (4, 4, 0)), (2, (0, 0, 10)))
LEVELS = [(0, 1), (1, 2), (1, 4), (3, 4), (1, 3), (9, 10), (999, 1000), (1, 1000), (7, 12)]


def bad_index(value):
    """The index of a value that is no outcomes, False for outcomes."""
    many = None

    def is_good(thing):
        nonlocal many
        if not is_pair(thing) or not is_int(thing[0], 1, 1000) or type(thing[1]) is not tuple:
            return False
        many = many or len(thing[1])
        return 1 <= many <= 4 and is_row(thing[1], many, 0, 1000)

    return bad_thing(value, 1, 8, is_good)


def are_members(many, value):
    if type(value) is not tuple or not value or not all(is_int(member, 0, many - 1) for member in value):
        return False
    return list(value) == sorted(set(value))


def groups(many):
    return [members for size in range(1, many + 1) for members in itertools.combinations(range(many), size)]


def shortfall_by_edges(outcomes, members, level):
    """The least, over all edges, of the edge plus the expected part above it in the worst part of all outcomes."""
    whole = sum(weight for weight, _ in outcomes)
    pairs = [(Fraction(weight, whole), sum(losses[member] for member in members)) for weight, losses in outcomes]
    found = []
    for edge in {loss for _, loss in pairs}:
        beyond = sum(chance * max(0, loss - edge) for chance, loss in pairs)
        found.append(edge + beyond / (1 - fraction(level)))
    return min(found)


def are_shares(outcomes, level, value):
    """Tell slowly, by all groups, whether a value is shares."""
    many = len(outcomes[0][1])
    if type(value) is not tuple or len(value) != many or not all(map(is_ratio, value)):
        return False
    for members in groups(many):
        borne, most = sum(fraction(value[member]) for member in members), shortfall_by_edges(outcomes, members, level)
        if borne > most or (len(members) == many and borne != most):
            return False
    return True


def drawn_outcomes(chance, many, members):
    most = chance.choice((3, 20, 1000))
    return tuple((chance.choice((1, 1, 2, 7, 1000)), tuple(chance.choice((0, chance.randint(0, most))) for _ in range(members)))
                 for _ in range(many))


def cases(seed, rounds):
    chance = random.Random(seed)
    for members, _ in itertools.product(range(1, 5), range(rounds)):
        for many in (1, 2, 3, 5, 8):
            yield drawn_outcomes(chance, many, members), chance.choice(LEVELS)


class PoolsTest(Checks, unittest.TestCase):
    def test_examples(self):
        self.same([pool_shortfall(PAIR, (0, 1), (1, 2)), shares(PAIR, (0, 1))], [(4, 1), ((1, 1), (2, 1))])

    def test_shortfalls_of_all_groups(self):
        for outcomes, level in cases(281, 8):
            self.assertIs(bad_index(outcomes), False)
            for members in groups(len(outcomes[0][1])):
                self.same(pool_shortfall(outcomes, members, level), ratio(shortfall_by_edges(outcomes, members, level)))

    def test_outcomes_one_by_one(self):
        # At a level of so many parts of all weights the worst outcomes are the last ones, one for each weight.
        for outcomes in (PAIR, THREE):
            for members in groups(len(outcomes[0][1])):
                every = sorted(sum(losses[at] for at in members) for weight, losses in outcomes for _ in range(weight))
                for left_out in range(len(every)):
                    worst = every[left_out:]
                    found = pool_shortfall(outcomes, members, ratio(Fraction(left_out, len(every))))
                    self.same(found, ratio(Fraction(sum(worst), len(worst))))

    def test_of_one_member_like_claims(self):
        for claims in ((1, 1), (3, 0, 1), (1, 2, 3, 4, 5, 6, 7, 8)):
            outcomes = tuple((weight, (amount,)) for amount, weight in enumerate(claims) if weight)
            for level in LEVELS:
                self.same(pool_shortfall(outcomes, (0,), level), shortfall(claims, level))
                self.same(shares(outcomes, level), (shortfall(claims, level),))
            self.same(pool_shortfall(outcomes, (0,), (0, 1)), mean_claim(claims))

    def test_there_are_always_shares(self):
        for outcomes, level in cases(282, 12):
            found = shares(outcomes, level)
            self.assertTrue(are_shares(outcomes, level, found), (outcomes, level, found))
            self.same(shows_shares(outcomes, level, found), True)

    def test_other_shares(self):
        chance = random.Random(283)
        told = {True: 0, False: 0}
        for outcomes, level in cases(284, 10):
            found = list(map(fraction, shares(outcomes, level)))
            many = len(found)
            others = [[part + Fraction(1, 100) for part in found[:1]] + found[1:], [2 * part for part in found], [Fraction(0)] * many]
            others += [found[::-1], [sum(found) / many] * many, [-part for part in found]]
            for _ in range(6):
                moved = found[:]
                giver, taker = chance.randrange(many), chance.randrange(many)
                part = Fraction(chance.choice((1, 5, 1000)), chance.choice((1, 10, 10**9)))
                moved[giver] -= part
                moved[taker] += part
                others.append(moved)
            for other in others:
                value = ratios(other)
                shown = are_shares(outcomes, level, value)
                self.same(shows_shares(outcomes, level, value), shown)
                told[shown] += 1
        self.assertGreater(min(told.values()), 100)

    def test_by_hand(self):
        # Together the worst half is the first outcome, 4; alone the members have 2 and 4 in their worst halves.
        self.same(shares(PAIR, (1, 2)), ((0, 1), (4, 1)))
        wanted = {
            ((0, 1), (4, 1)): True, ((1, 1), (3, 1)): True, ((2, 1), (2, 1)): True, ((3, 1), (1, 1)): False, ((-1, 1), (5, 1)): False,
            ((201, 100), (199, 100)): False, ((0, 1), (3, 1)): False, ((1, 1), (4, 1)): False, ((0, 1), (0, 1)): False,
            ((-1, 1000), (4001, 1000)): False, ((4, 3), (8, 3)): True,
        }
        for value, shown in wanted.items():
            self.same(shows_shares(PAIR, (1, 2), value), shown)
        # At the level 0 all have their means, and nothing can be moved.
        for value, shown in {((1, 1), (2, 1)): True, ((2, 1), (1, 1)): False, ((0, 1), (3, 1)): False, ((3, 2), (3, 2)): False}.items():
            self.same(shows_shares(PAIR, (0, 1), value), shown)

    def test_a_group_that_two_alone_do_not_show(self):
        # Each one alone could bear 6, two of them together 6 only: one of these has to bear less.
        outcomes = ((1, (6, 0, 0)), (1, (0, 6, 0)), (1, (0, 0, 6)))
        level = (2, 3)
        self.same([pool_shortfall(outcomes, members, level) for members in groups(3)], [(6, 1)] * 7)
        for value, shown in {((2, 1),) * 3: True, ((6, 1), (0, 1), (0, 1)): True, ((4, 1), (4, 1), (-2, 1)): False,
                             ((3, 1), (3, 1), (0, 1)): True, ((7, 1), (0, 1), (-1, 1)): False}.items():
            self.same(shows_shares(outcomes, level, value), shown)

    def test_edges(self):
        self.same(pool_shortfall(((1000, (1000,) * 4),) * 8, (0, 1, 2, 3), (999, 1000)), (4000, 1))
        self.same(shares(((1, (0, 0, 0, 0)),), (999, 1000)), ((0, 1),) * 4)
        self.same(pool_shortfall(((5, (7,)),), (0,), (0, 1)), (7, 1))
        # Of the chance 1/2 of the greater loss, only the last part counts.
        self.same(pool_shortfall(((1, (1,)), (1, (3,))), (0,), (999, 1000)), (3, 1))
        self.same(pool_shortfall(((1, (1,)), (999, (0,))), (0,), (999, 1000)), (1, 1))
        self.same(pool_shortfall(((1, (1,)), (1000, (0,))), (0,), (999, 1000)), ratio(Fraction(1000, 1001)))


class ErrorsTest(Checks, unittest.TestCase):
    calls = ((pool_shortfall, ((0, 1), (1, 2))), (shares, ((1, 2),)), (shows_shares, ((1, 2), ((0, 1), (4, 1)))))

    def test_values_of_every_kind(self):
        self.judges(shows_shares, are_shares, ((1, 1), (3, 1)), PAIR, (1, 2))
        self.judges(shows_shares, are_shares, shares(THREE, (1, 2)), THREE, (1, 2))
        self.judges(shows_shares, are_shares, ((7, 1),), ((5, (7,)),), (0, 1))
        for value in ((1, 3), ((1, 1), (6, 2)), ((True, 1), (3, 1)), ((1, 1), (3, 1), (0, 1)), ((4, 1),), [(1, 1), (3, 1)]):
            self.same(shows_shares(PAIR, (1, 2), value), False)

    def test_wrong_outcomes(self):
        more = [
            ((1, ()),), ((1, (1,) * 5),), ((1, (1,)), (1, (1, 1))), ((1, (1, 1)), (1, (1,))), ((0, (1,)),), ((1001, (1,)),),
            ((1, (1001,)),), ((1, (-1,)),), ((1, [1]),), ([1, (1,)],), PAIR * 5, ((1, (1,), 1),), ((True, (1,)),), ((1, (True,)),),
            (((1, 1), (1,)),), (((1,), 1),), ((-1, (1,)),),
        ]
        for value in more:
            self.assertIsNot(bad_index(value), False)
        self.refuses_things(self.calls, PAIR, BadOutcomes, bad_index, more)

    def test_index_of_the_first_bad_outcome(self):
        good = (1, (1,))
        for many in range(1, 9):
            for at in range(many):
                for bad in (None, (1, (1, 1)) if at else (1, ()), (0, (1,)), [1, (1,)]):
                    value = (good,) * at + (bad,) + (None,) * (many - at - 1)
                    self.is_told(BadOutcomes, shares, value, (0, 1), index=at)
        self.is_told(BadOutcomes, shares, (good,) * 9, (0, 1), index=None)
        self.is_told(BadOutcomes, shares, (), (0, 1), index=None)

    def test_wrong_members(self):
        for outcomes in (((5, (7,)),), PAIR, THREE, ((1, (1, 2, 3, 4)),)):
            many = len(outcomes[0][1])
            self.refuses(pool_shortfall, [outcomes, (0,), (0, 1)], 1, BadMembers, lambda value: are_members(many, value))
            for members in itertools.product(range(-1, many + 1), repeat=2):
                if not are_members(many, members):
                    self.is_told(BadMembers, pool_shortfall, outcomes, members, (0, 1))
                else:
                    pool_shortfall(outcomes, members, (0, 1))
        for at, value in itertools.product((0, 1), ANYTHING):
            if not are_members(3, replaced((0, 2), (at,), value)):
                self.is_told(BadMembers, pool_shortfall, THREE, replaced((0, 2), (at,), value), (0, 1))
        for bad in ((), (1, 0), (0, 0), (3,), (0, 1, 3), (-1, 0), (0, 2, 1), (0, 1, 2, 2), [0, 1], (False, 1), (0, True), ((0,),)):
            self.is_told(BadMembers, pool_shortfall, THREE, bad, (0, 1))

    def test_wrong_levels(self):
        self.refuses(pool_shortfall, [PAIR, (0,), (0, 1)], 2, BadChance, is_level)
        self.refuses(shares, [PAIR, (0, 1)], 1, BadChance, is_level)
        self.refuses(shows_shares, [PAIR, (0, 1), ((1, 1), (2, 1))], 1, BadChance, is_level)
        for level in ((1, 1), (1000, 1001), (-1, 2), (2, 4), 0, True):
            self.is_told(BadChance, shares, PAIR, level)

    def test_leftmost_error(self):
        bad = ((PAIR[0], (1, (1,))), BadOutcomes)
        self.first_error_wins(pool_shortfall, [PAIR, (0,), (0, 1)], [bad, ((2,), BadMembers), ((1, 1), BadChance)])
        self.first_error_wins(shares, [PAIR, (0, 1)], [bad, ((1, 1), BadChance)])
        for value in (None, ((1, 1), (2, 1))):
            self.first_error_wins(lambda *told: shows_shares(*told, value), [PAIR, (0, 1)], [bad, ((1, 1), BadChance)])

    def test_arguments_stay(self):
        for function, rest in self.calls:
            self.keeps_arguments(function, PAIR, *rest)
        self.keeps_arguments(shows_shares, PAIR, (1, 2), [[(0, 1)], {"a": (4, 1)}])


if __name__ == "__main__":
    unittest.main()
