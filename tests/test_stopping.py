"""Point 26: when to stop, and corrections."""

import itertools
import random
import unittest
from fractions import Fraction

from actuarium.errors import BadModel, BadOffers, BadRate
from actuarium.states import state_values
from actuarium.stopping import best_values, corrections, shows_corrections, stop_times
from tests.support import ANYTHING, Checks, fraction, grown, is_rate, is_ratio, places, ratio, replaced, short
from tests.test_states import SMALL, fault, is_table, made, paths

RATES = [(0, 1), (1, 10), (1, 1), (-1, 4)]
SINGLE = ((((1,),),), (((1,), (2,)), (((3,),),)))
OFFERS = ((4, 9), (3, -3))
# Two years, two states: from state 0 either state follows, from state 1 nothing else does.
TWO = ((((1, 1), (0, 1)), ((1, 3), (0, 2))), (((1, 2), (3, -4), (5, 6)), (((0, 8), (9, 1)), ((2, 0), (7, -5)))))
TWO_OFFERS = ((3, 3), (0, -2), (4, 7))


def are_offers(model, value):
    return is_table(value, len(model[0]) + 1, len(model[0][0]), -1000, 1000)


def paid_until(model, rate, offers, path, begin, stop):
    """The value, at the time of its beginning, of what a path pays to who stops at a time, None for never."""
    staying, moving = model[1]
    value = Fraction(0)
    for later, state in enumerate(path):
        if begin + later == stop:
            return value + grown(offers[stop][state], rate, -later)
        value += grown(staying[begin + later][state], rate, -later)
        if later + 1 < len(path):
            value += grown(moving[begin + later][state][path[later + 1]], rate, -later - 1)
    return value


def ways(model, rate, offers, begin, state, first=None):
    """Go through all ways to stop from a state on, as what each one is expected to pay.

    A way says for each past, the states so far, whether to stop; `first` says it for the very first one.
    """
    every = list(paths(model, state, begin))
    years = len(model[0]) - begin
    pasts = sorted({path[:length] for path, _ in every for length in range(1, years + 1)})
    for choice in itertools.product((False, True), repeat=len(pasts)):
        stops = dict(zip(pasts, choice))
        if first is not None and stops.get((state,), first) != first:
            continue
        told = Fraction(0)
        for path, part in every:
            when = next((begin + length - 1 for length in range(1, years + 1) if stops[path[:length]]), None)
            if when is None:
                # At the last time the greater one is taken.
                told += part * max(paid_until(model, rate, offers, path, begin, time) for time in (begin + years, None))
            else:
                told += part * paid_until(model, rate, offers, path, begin, when)
        yield told


def few_pasts(model):
    """Tell whether all ways to stop from the beginning can be tried."""
    years = len(model[0])
    return all(len({path[:length] for path, _ in paths(model, state) for length in range(1, years + 1)}) <= 8
               for state in range(len(model[0][0])))


def is_corrections(model, rate, offers, value):
    """Tell slowly, by all paths and all times to stop, whether a value is corrections that show the best values."""
    steps = model[0]
    many = len(steps[0])
    if type(value) is not tuple or len(value) != len(steps):
        return False
    for rows in value:
        if type(rows) is not tuple or len(rows) != many or any(type(row) is not tuple or len(row) != many for row in rows):
            return False
        if not all(is_ratio(entry) for row in rows for entry in row):
            return False
    for year, rows in zip(steps, value):
        if any(sum(weight * fraction(entry) for weight, entry in zip(*pair)) for pair in zip(year, rows)):
            return False
    return all(path_bound(model, rate, offers, value, state) <= fraction(best_values(model, rate, offers)[0][state])
               for state in range(many))


def path_bound(model, rate, offers, value, state):
    """The most that a path from a state pays, less the corrections of the years before, at any time to stop."""
    found = []
    for path, _ in paths(model, state):
        for stop in [*range(len(model[0]) + 1), None]:
            years = len(model[0]) if stop is None else stop
            less = sum(grown(fraction(value[at][path[at]][path[at + 1]]), rate, -at - 1) for at in range(years))
            found.append(paid_until(model, rate, offers, path, 0, stop) - less)
    return max(found)


def some_offers(chance, model, rate):
    """Offers that are near the values of staying, or anywhere."""
    rows = []
    for row in state_values(model, rate):
        near = [max(-1000, min(1000, round(fraction(value)) + chance.randint(-20, 20))) for value in row]
        rows.append(tuple(chance.choice((entry, chance.randint(-60, 60), -1000 if entry > 0 else 1000)) for entry in near))
    return tuple(rows)


def small_model(chance, years, states):
    """A model whose payments are small, so that it is not plain when to stop."""
    steps, (staying, moving) = made(chance, years, states)
    staying = tuple(tuple(chance.randint(-9, 9) for _ in row) for row in staying)
    moving = tuple(tuple(tuple(chance.randint(-9, 9) for _ in row) for row in year) for year in moving)
    return (steps, (staying, moving))


def cases(seed, sizes):
    chance = random.Random(seed)
    for years, states in sizes:
        for make in (small_model, made):
            model = make(chance, years, states)
            for rate in RATES:
                yield model, rate, some_offers(chance, model, rate)


class ValuesTest(Checks, unittest.TestCase):
    def test_examples(self):
        found = [best_values(SINGLE, (0, 1), ((7,), (0,))), stop_times(SINGLE, (0, 1), ((6,), (2,))),
                 corrections(SINGLE, (0, 1), ((0,), (0,)))]
        self.same(found, [(((7, 1),), ((2, 1),)), ((True,), (True,)), ((((0, 1),),),)])

    def test_all_ways_to_stop(self):
        sizes = [(1, 1), (1, 2), (1, 3), (1, 4), (2, 1), (2, 2), (2, 3), (2, 2), (3, 2), (4, 1), (8, 1)]
        tried = 0
        for model, rate, offers in cases(261, sizes):
            self.assertIsNone(fault(model))
            if not few_pasts(model):
                continue
            tried += 1
            best, stops = best_values(model, rate, offers), stop_times(model, rate, offers)
            self.assertEqual([len(best), len(stops)], [len(offers)] * 2)
            for time, row in enumerate(offers):
                for state, offer in enumerate(row):
                    if time < len(model[0]):
                        stay = max(ways(model, rate, offers, time, state, first=False))
                        self.same(best[time][state], ratio(max(ways(model, rate, offers, time, state))))
                    else:
                        stay = model[1][0][time][state]
                        self.same(best[time][state], ratio(max(stay, offer)))
                    self.same(stops[time][state], offer >= stay)
            self.assertTrue(all(type(row) is tuple for row in (*best, *stops)))
        self.assertGreater(tried, 50)

    def test_long_models_step_by_step(self):
        for model, rate, offers in cases(262, [(8, 4), (8, 3), (5, 4)]):
            best, stops = best_values(model, rate, offers), stop_times(model, rate, offers)
            steps, (staying, moving) = model
            for time in reversed(range(len(offers))):
                for state, offer in enumerate(offers[time]):
                    stay = Fraction(staying[time][state])
                    if time < len(steps):
                        row = steps[time][state]
                        for goal, weight in enumerate(row):
                            end = moving[time][state][goal] + fraction(best[time + 1][goal])
                            stay += Fraction(weight, sum(row)) * grown(end, rate, -1)
                    self.same(best[time][state], ratio(max(stay, offer)))
                    self.same(stops[time][state], offer >= stay)

    def test_by_hand(self):
        # SMALL from state 0: 0 + half of the better one of 2 and 3 in state 0, and half of 10 + the better one of -3
        # and -3 in state 1: (3 + 7) / 2 = 5, more than the offer 4. From state 1: 5 + 7 - 3 = 9, which is the offer.
        self.same(best_values(SMALL, (0, 1), OFFERS), (((5, 1), (9, 1)), ((3, 1), (-3, 1))))
        self.same(stop_times(SMALL, (0, 1), OFFERS), ((False, True), (True, True)))
        # At the rate 1 only 5/2 and 7 come of it.
        self.same(best_values(SMALL, (1, 1), OFFERS), (((4, 1), (9, 1)), ((3, 1), (-3, 1))))
        self.same(stop_times(SMALL, (1, 1), OFFERS), ((True, True), (True, True)))

    def test_offers_that_are_exactly_the_value_of_staying(self):
        self.same(stop_times(SINGLE, (0, 1), ((6,), (2,))), ((True,), (True,)))
        self.same(stop_times(SINGLE, (0, 1), ((5,), (1,))), ((False,), (False,)))
        self.same(stop_times(SINGLE, (0, 1), ((6,), (3,))), ((False,), (True,)))
        self.same(stop_times(SINGLE, (0, 1), ((7,), (3,))), ((True,), (True,)))
        self.same(stop_times(SINGLE, (1, 1), ((3,), (1,))), ((False,), (False,)))
        self.same(stop_times(SINGLE, (1, 1), ((4,), (1,))), ((True,), (False,)))

    def test_low_offers_change_nothing(self):
        for model, rate, _ in cases(263, [(1, 4), (3, 3), (8, 2)]):
            low = ((-1000,) * len(model[0][0]),) * (len(model[0]) + 1)
            plain = state_values(model, rate)
            if all(fraction(value) > -1000 for row in plain for value in row):
                self.same(best_values(model, rate, low), plain)
                self.assertFalse(any(any(row) for row in stop_times(model, rate, low)))


class CorrectionsTest(Checks, unittest.TestCase):
    def test_returned_ones(self):
        for model, rate, offers in cases(264, [(1, 1), (1, 4), (2, 3), (3, 2), (4, 2), (3, 3), (8, 1)]):
            found = corrections(model, rate, offers)
            self.assertTrue(is_corrections(model, rate, offers, found))
            self.same(shows_corrections(model, rate, offers, found), True)

    def test_long_models(self):
        chance = random.Random(265)
        for states in (2, 3, 4):
            model = made(chance, 8, states, few=True)
            for rate in RATES:
                offers = some_offers(chance, model, rate)
                found = corrections(model, rate, offers)
                self.assertTrue(is_corrections(model, rate, offers, found))
                self.same(shows_corrections(model, rate, offers, found), True)

    def changed(self, chance, model, value):
        """Other values: bent in one place, bent so that the sums stay, doubled, all 0, a year too few or too many."""
        zeros = tuple(tuple(tuple((0, 1) for _ in row) for row in year) for year in value)
        yield zeros
        yield tuple(tuple(tuple(ratio(2 * fraction(entry)) for entry in row) for row in year) for year in value)
        yield tuple(tuple(tuple(ratio(-fraction(entry)) for entry in row) for row in year) for year in value)
        yield value[:-1]
        yield value + value[-1:]
        yield (value[0][:-1], *value[1:])
        for _ in range(6):
            at, state = chance.randrange(len(value)), chance.randrange(len(value[0]))
            goal = chance.randrange(len(value[0]))
            bent = Fraction(chance.choice((-1, 1)), chance.choice((1, 10, 10**9)))
            new = replaced(value, (at, state, goal), ratio(fraction(value[at][state][goal]) + bent))
            yield new
            weights = model[0][at][state]
            other = chance.randrange(len(value[0]))
            if other != goal and weights[other]:
                back = fraction(value[at][state][other]) - bent * weights[goal] / weights[other]
                yield replaced(new, (at, state, other), ratio(back))

    def test_other_values(self):
        chance = random.Random(266)
        told = {True: 0, False: 0}
        for model, rate, offers in cases(267, [(1, 1), (1, 2), (1, 4), (2, 2), (2, 3), (3, 2), (4, 2)]):
            for value in self.changed(chance, model, corrections(model, rate, offers)):
                shown = is_corrections(model, rate, offers, value)
                self.same(shows_corrections(model, rate, offers, value), shown)
                told[shown] += 1
        self.assertGreater(min(told.values()), 50)

    def test_by_hand(self):
        # From state 0 the step to state 0 brings 3, the one to state 1 brings 7; 5 is expected.
        good = (((-2, 1), (2, 1)), ((5, 2), (0, 1)))
        self.same(shows_corrections(SMALL, (0, 1), OFFERS, (good,)), True)
        # The best value is 5, and no other corrections keep both paths below it.
        for part in ((-1, 1), (-3, 1), (-199, 100), (-201, 100), (0, 1), (2, 1)):
            other = ((part, (-part[0], part[1])), ((0, 1), (0, 1)))
            self.same(shows_corrections(SMALL, (0, 1), OFFERS, (other,)), False)
        # The sum over the steps of state 0 has to be 0.
        self.same(shows_corrections(SMALL, (0, 1), OFFERS, ((((-2, 1), (3, 1)), ((0, 1), (0, 1))),)), False)
        # If the offer is taken at once anyway, more are allowed.
        offers = ((6, 9), (3, -3))
        for part, shown in (((-2, 1), True), ((-3, 1), True), ((-1, 1), True), ((-10, 3), False), ((-4, 1), False), ((0, 1), False)):
            other = ((part, (-part[0], part[1])), ((0, 1), (0, 1)))
            self.same(shows_corrections(SMALL, (0, 1), offers, (other,)), shown)
            self.assertEqual(is_corrections(SMALL, (0, 1), offers, (other,)), shown)

    def test_steps_with_the_chance_0(self):
        for entry in ((0, 1), (10**6, 1), (-10**6, 7), (1, 10**9)):
            self.same(shows_corrections(SMALL, (0, 1), OFFERS, ((((-2, 1), (2, 1)), (entry, (0, 1))),)), True)
        for entry in ((2, 2), 1, None, (0, 0), [0, 1]):
            self.same(shows_corrections(SMALL, (0, 1), OFFERS, ((((-2, 1), (2, 1)), (entry, (0, 1))),)), False)
        self.same(shows_corrections(SMALL, (0, 1), OFFERS, ((((-2, 1), (2, 1)), ((0, 1), (1, 1))),)), False)

    def test_values_of_every_kind(self):
        for model, offers in ((TWO, TWO_OFFERS), (SMALL, OFFERS), (SINGLE, ((7,), (0,)))):
            good = corrections(model, (1, 10), offers)
            self.judges(lambda value: shows_corrections(model, (1, 10), offers, value),
                        lambda value: is_corrections(model, (1, 10), offers, value), good)


class ErrorsTest(Checks, unittest.TestCase):
    calls = ((best_values, ()), (stop_times, ()), (corrections, ()), (shows_corrections, (corrections(SMALL, (0, 1), OFFERS),)))

    def test_wrong_models(self):
        bad = [value for value in ANYTHING if fault(value)]
        for path in places(SMALL):
            for value in (True, None, "1", [1], 1001, -1001, ()):
                if fault(replaced(SMALL, path, value)):
                    bad.append(replaced(SMALL, path, value))
        for value in bad:
            for function, rest in self.calls:
                with self.subTest(function=function.__name__, value=short(value)):
                    self.is_told(BadModel, function, value, (0, 1), OFFERS, *rest, place=fault(value))

    def test_wrong_rates(self):
        for function, rest in self.calls:
            self.refuses(function, [SMALL, (0, 1), OFFERS, *rest], 1, BadRate, is_rate)

    def test_wrong_offers(self):
        bad = [OFFERS[:1], OFFERS + OFFERS[:1], (), list(OFFERS), ((4, 9), (3,)), ((4, 9, 1), (3, 3)), ([4, 9], (3, 3)),
               ((4, 9), (3, 1001)), ((4, -1001), (3, 3)), ((True, 9), (3, 3)), ((4, 9), None), OFFERS[0]]
        for function, rest in self.calls:
            self.refuses(function, [SMALL, (0, 1), OFFERS, *rest], 2, BadOffers, lambda value: are_offers(SMALL, value))
            for value in bad:
                self.is_told(BadOffers, function, SMALL, (0, 1), value, *rest)
            for path in places(OFFERS):
                for value in ANYTHING:
                    changed = replaced(OFFERS, path, value)
                    if not are_offers(SMALL, changed):
                        self.is_told(BadOffers, function, SMALL, (0, 1), changed, *rest)
        self.same(best_values(SINGLE, (0, 1), ((1000,), (-1000,))), (((1000, 1),), ((2, 1),)))
        self.same(best_values(SINGLE, (0, 1), ((-1000,), (1000,))), (((1004, 1),), ((1000, 1),)))

    def test_leftmost_error(self):
        faults = [((SMALL[0], None), BadModel), ((-1, 1), BadRate), ((), BadOffers)]
        for function in (best_values, stop_times, corrections):
            self.first_error_wins(function, [SMALL, (0, 1), OFFERS], faults)
        for value in (None, (), corrections(SMALL, (0, 1), OFFERS)):
            self.first_error_wins(lambda *told: shows_corrections(*told, value), [SMALL, (0, 1), OFFERS], faults)

    def test_arguments_stay(self):
        for function, rest in self.calls:
            self.keeps_arguments(function, SMALL, (1, 10), OFFERS, *rest)
        self.keeps_arguments(shows_corrections, SMALL, (1, 10), OFFERS, [[{"a": (0, 1)}]])


if __name__ == "__main__":
    unittest.main()
