"""Point 14: models of states and steps."""

import itertools
import random
import unittest
from fractions import Fraction

from actuarium.errors import BadModel, BadRate, BadState
from actuarium.states import chances_at, first_chance, spread_of, state_values
from tests.support import (
    ANYTHING, Checks, fraction, grown, is_int, is_rate, is_time, places, ratio, ratios, replaced, short)

RATES = [(0, 1), (1, 10), (1, 1), (-1, 4)]
SMALL = ((((1, 1), (0, 1)),), (((0, 5), (2, -3)), (((0, 10), (0, 7)),)))


def is_table(value, rows, columns, low, high):
    if type(value) is not tuple or len(value) != rows:
        return False
    return all(type(row) is tuple and len(row) == columns and all(is_int(entry, low, high) for entry in row) for row in value)


def fault(model):
    """Tell slowly which part of a model is the first bad one, None if it is a model."""
    if type(model) is not tuple or len(model) != 2 or type(model[0]) is not tuple or len(model[0]) not in range(1, 9):
        return "steps"
    steps, paid = model
    sizes = {len(year) if type(year) is tuple else None for year in steps}
    if len(sizes) != 1 or not sizes <= {1, 2, 3, 4}:
        return "steps"
    states = sizes.pop()
    for year in steps:
        if not is_table(year, states, states, 0, 20) or any(sum(row) == 0 for row in year):
            return "steps"
    if type(paid) is not tuple or len(paid) != 2 or not is_table(paid[0], len(steps) + 1, states, -1000, 1000):
        return "staying"
    if type(paid[1]) is not tuple or len(paid[1]) != len(steps):
        return "moving"
    if not all(is_table(year, states, states, -1000, 1000) for year in paid[1]):
        return "moving"
    return None


def paths(model, start, begin=0):
    """Go through all paths of states with positive chances from a time on."""
    steps = model[0]
    rows = [(start,)]
    for year in steps[begin:]:
        rows = [(*row, goal) for row in rows for goal, weight in enumerate(year[row[-1]]) if weight]
    for row in rows:
        chance = Fraction(1)
        for year, one, other in zip(steps[begin:], row, row[1:]):
            chance *= Fraction(year[one][other], sum(year[one]))
        yield row, chance


def paid_on(model, rate, path, begin=0):
    """The value at the time of its beginning of all that is paid on a path."""
    staying, moving = model[1]
    value = Fraction(0)
    for later, state in enumerate(path):
        value += grown(staying[begin + later][state], rate, -later)
    for later, (one, other) in enumerate(zip(path, path[1:])):
        value += grown(moving[begin + later][one][other], rate, -later - 1)
    return value


def made(chance, years, states, few=False):
    """Make a model; in one with few ways each row has one positive entry, or two."""
    steps = []
    for _ in range(years):
        year = []
        for _ in range(states):
            row = [0] * states if few else [chance.choice((0, 1, 2, 3, 20)) for _ in range(states)]
            row[chance.randrange(states)] = chance.randint(1, 20)
            if few and chance.random() < 0.4:
                row[chance.randrange(states)] = chance.randint(1, 20)
            year.append(tuple(row))
        steps.append(tuple(year))

    def numbers(many):
        return tuple(chance.choice((-1000, 1000, 0, chance.randint(-50, 50))) for _ in range(many))
    staying = tuple(numbers(states) for _ in range(years + 1))
    moving = tuple(tuple(numbers(states) for _ in range(states)) for _ in range(years))
    return (tuple(steps), (staying, moving))


def some_models(seed=51):
    chance = random.Random(seed)
    for years, states in itertools.product((1, 2, 3), (1, 2, 3, 4)):
        yield made(chance, years, states)
    for states in (1, 2, 3, 4):
        yield made(chance, 8, states, few=True)
    yield made(chance, 8, 2)
    yield SMALL


class ModelsTest(Checks, unittest.TestCase):
    def test_by_hand(self):
        # From state 0 one half stays and gets 0, the other half moves, gets 10, and -3 for being there; at no interest
        # 0 + (2 + 7) / 2. From state 1 all stay: 5 + 7 - 3.
        self.same(state_values(SMALL, (0, 1)), (((9, 2), (9, 1)), ((2, 1), (-3, 1))))
        # At the rate 1 what comes a year later is worth half as much.
        self.same(state_values(SMALL, (1, 1)), (((9, 4), (7, 1)), ((2, 1), (-3, 1))))
        self.same(chances_at(SMALL, 0), (((1, 1), (0, 1)), ((1, 2), (1, 2))))
        self.same(chances_at(SMALL, 1), (((0, 1), (1, 1)), ((0, 1), (1, 1))))
        # The value is 2 or 7: 5/2 off its mean either way.
        self.same(spread_of(SMALL, (0, 1), 0), (25, 4))
        self.same(spread_of(SMALL, (1, 1), 0), (25, 16))
        self.same(spread_of(SMALL, (0, 1), 1), (0, 1))
        self.same(first_chance(SMALL, 0, 1), ((0, 1), (1, 2)))
        self.same(first_chance(SMALL, 0, 0), ((1, 1), (0, 1)))

    def test_two_years_by_hand(self):
        # Each year a third of state 0 goes to state 1, and all of state 1 goes back.
        year = ((2, 1), (5, 0))
        model = ((year, year), (((0, 0), (0, 6), (0, 9)), (((0, 3), (0, 0)), ((0, 0), (1, 0)))))
        self.same(chances_at(model, 0), (((1, 1), (0, 1)), ((2, 3), (1, 3)), ((7, 9), (2, 9))))
        self.same(first_chance(model, 0, 1), ((0, 1), (1, 3), (2, 9)))
        self.same(first_chance(model, 1, 0), ((0, 1), (1, 1), (0, 1)))
        # At time 1: state 0 has 9/3 to come, state 1 has 6 and 1; at time 0: 2/3 of 3 and 1/3 of 3 + 7, or all of 3.
        self.same(state_values(model, (0, 1)), (((16, 3), (3, 1)), ((3, 1), (7, 1)), ((0, 1), (9, 1))))
        # From state 0: 0 for 4/9, 9 for 2/9, 10 for 1/3; the mean of the squares is 162/9 + 300/9, and 16/3 squared 256/9.
        self.same(spread_of(model, (0, 1), 0), (206, 9))

    def test_values_path_by_path(self):
        for model in some_models():
            steps = model[0]
            for rate in RATES:
                wanted = []
                for time in range(len(steps) + 1):
                    wanted.append(ratios(sum(chance * paid_on(model, rate, path, time) for path, chance in paths(model, state, time))
                                         for state in range(len(steps[0]))))
                self.same(state_values(model, rate), tuple(wanted))

    def test_chances_path_by_path(self):
        for model in some_models(52):
            steps = model[0]
            states, times = range(len(steps[0])), range(len(steps) + 1)
            for start in states:
                all_paths = list(paths(model, start))
                self.assertEqual(sum(chance for _, chance in all_paths), 1)
                wanted = tuple(ratios(sum(chance for path, chance in all_paths if path[time] == state) for state in states)
                               for time in times)
                self.same(chances_at(model, start), wanted)
                for goal in states:
                    wanted = ratios(sum(chance for path, chance in all_paths if goal in path and path.index(goal) == time)
                                    for time in times)
                    self.same(first_chance(model, start, goal), wanted)

    def test_spreads_path_by_path(self):
        for model in some_models(53):
            for start in range(len(model[0][0])):
                for rate in RATES:
                    worths = [(paid_on(model, rate, path), chance) for path, chance in paths(model, start)]
                    mean = sum(worth * chance for worth, chance in worths)
                    wanted = sum((worth - mean) ** 2 * chance for worth, chance in worths)
                    self.same(spread_of(model, rate, start), ratio(wanted))

    def test_largest_models(self):
        model = made(random.Random(54), 8, 4)
        for start in range(4):
            rows = chances_at(model, start)
            self.assertEqual([sum(map(fraction, row)) for row in rows], [1] * 9)
            # What is paid at each time with the chance of its state, valued at time 0, sums to the value.
            value = Fraction(0)
            for time, row in enumerate(rows):
                value += grown(sum(fraction(part) * paid for part, paid in zip(row, model[1][0][time])), (1, 10), -time)
                for state, part in enumerate(row if time < 8 else ()):
                    weights, moved = model[0][time][state], model[1][1][time][state]
                    paid = sum(Fraction(weight, sum(weights)) * amount for weight, amount in zip(weights, moved))
                    value += grown(fraction(part) * paid, (1, 10), -time - 1)
            self.same(state_values(model, (1, 10))[0][start], ratio(value))
            self.assertEqual(first_chance(model, start, start), ((1, 1), *[(0, 1)] * 8))
            for goal in range(4):
                # Who is in a state at a time came there for the first time by then.
                ever = sum(map(fraction, first_chance(model, start, goal)))
                self.assertLessEqual(max(fraction(row[goal]) for row in rows), ever)
                self.assertLessEqual(ever, 1)

    def test_one_state(self):
        model = ((((7,),),) * 8, (((1000,),) * 9, (((-1000,),),) * 8))
        self.same(state_values(model, (0, 1)), (((1000, 1),),) * 9)
        self.same(chances_at(model, 0), (((1, 1),),) * 9)
        self.same(first_chance(model, 0, 0), ((1, 1),) + ((0, 1),) * 8)
        self.same(spread_of(model, (1, 7), 0), (0, 1))


class ErrorsTest(Checks, unittest.TestCase):
    calls = [(state_values, ((0, 1),)), (chances_at, (0,)), (spread_of, ((0, 1), 0)), (first_chance, (0, 0))]

    def told(self, model, calls=None):
        place = fault(model)
        for function, rest in calls or self.calls:
            with self.subTest(function=function.__name__, model=short(model)):
                if place is not None:
                    self.is_told(BadModel, function, model, *rest, place=place)
                    self.is_told(BadModel, function, model, *(None for _ in rest), place=place)
                else:
                    function(model, *rest)

    def test_values_of_every_kind_in_every_part(self):
        self.assertIsNone(fault(SMALL))
        seen = {}
        for path in places(SMALL):
            for value in ANYTHING:
                model = replaced(SMALL, path, value)
                seen[fault(model)] = seen.get(fault(model), 0) + 1
                self.told(model, self.calls[:2])
        self.assertEqual(set(seen), {None, "steps", "staying", "moving"})
        for value in ANYTHING:
            self.told(value)
            self.told((value, SMALL[1]))
            self.told((SMALL[0], value))

    def test_limits_of_steps(self):
        for years, states in ((0, 1), (1, 1), (8, 1), (9, 1), (1, 4), (1, 5), (8, 4), (9, 4), (2, 0), (8, 5)):
            year = ((1,) * states,) * states
            model = ((year,) * years, (((0,) * states,) * (years + 1), (((0,) * states,) * states,) * years))
            self.assertEqual(fault(model), None if 1 <= years <= 8 and 1 <= states <= 4 else "steps")
            self.told(model)
        for weight in (0, 1, 20, 21, -1, True, None):
            for row in ((0, weight), (1, weight), (weight, weight)):
                self.told(((((3, 4), row),), SMALL[1]))
        two = ((1, 1), (1, 1))
        paid = (((0, 0),) * 3, (((0, 0),) * 2,) * 2)
        self.told(((two, two), paid))
        for other in (((1,),), ((1, 1, 1),) * 3, ((1, 1),), ((1, 1),) * 3, ((1, 1), (1,)), ((1, 1), (1, 1, 1)), ((1, 1), [1, 1]),
                      [(1, 1), (1, 1)], ((1, 1), (0, 0)), ((0, 0), (1, 1)), (), None):
            for steps in ((two, other), (other, two)):
                self.assertEqual(fault((steps, paid)), "steps")
                self.told((steps, paid))

    def test_limits_of_what_is_paid(self):
        for amount, good in ((-1001, False), (-1000, True), (1000, True), (1001, False), (False, False)):
            for path in places(SMALL[1]):
                if type(self.at(SMALL[1], path)) is int:
                    model = (SMALL[0], replaced(SMALL[1], path, amount))
                    self.assertEqual(fault(model), None if good else ("staying", "moving")[path[0]])
                    self.told(model)

    def at(self, value, path):
        for step in path:
            value = value[step]
        return value

    def test_too_few_and_too_many(self):
        steps, (staying, moving) = SMALL
        for bad in (staying[:1], staying + staying[:1], (), (staying[0], (1,)), (staying[0], (1, 2, 3)), list(staying)):
            self.told((steps, (bad, moving)))
            self.assertEqual(fault((steps, (bad, moving))), "staying")
            self.told((steps, (bad, None)))
        for bad in ((), moving + moving, (moving[0][:1],), (moving[0] + moving[0][:1],), (((1, 2), (3,)),),
                    (((1, 2), (3, 4, 5)),), list(moving), ([(0, 0), (0, 0)],), (((0, 0), [0, 0]),)):
            self.told((steps, (staying, bad)))
            self.assertEqual(fault((steps, (staying, bad))), "moving")
        for bad in ((staying,), (staying, moving, moving), [staying, moving], None, {}):
            self.told((steps, bad))
            self.assertEqual(fault((steps, bad)), "staying")
        for bad in ((steps,), (steps, SMALL[1], ()), [steps, SMALL[1]], ((), SMALL[1]), (list(steps), SMALL[1])):
            self.told(bad)
            self.assertEqual(fault(bad), "steps")

    def test_each_year_is_looked_at(self):
        steps, (staying, moving) = model = made(random.Random(57), 3, 2)
        self.assertIsNone(fault(model))
        for year in range(3):
            for bad in (((0, 0),), ((0, 0), (0, 1001)), ((0, 0), (0, 0), (0, 0)), None):
                self.told((steps, (staying, replaced(moving, (year,), bad))))
                self.assertEqual(fault((steps, (staying, replaced(moving, (year,), bad)))), "moving")
            for bad in (((1, 1),), ((1, 1), (0, 0)), ((1, 1), (0, 21)), None):
                self.told((replaced(steps, (year,), bad), (staying, moving)))
                self.assertEqual(fault((replaced(steps, (year,), bad), (staying, moving))), "steps")
        for time in range(4):
            self.told((steps, (replaced(staying, (time, 1), -1001), moving)))
            self.assertEqual(fault((steps, (replaced(staying, (time, 1), -1001), moving))), "staying")

    def test_several_bad_parts(self):
        steps, (staying, moving) = SMALL
        for one, two, three in itertools.product((True, False), repeat=3):
            model = (steps if one else None, (staying if two else (1,), moving if three else ()))
            place = "steps" if not one else "staying" if not two else "moving" if not three else None
            self.assertEqual(fault(model), place)
            self.told(model)

    def test_wrong_rates_and_states(self):
        three = made(random.Random(55), 2, 3)
        for function in (state_values, spread_of):
            rest = [] if function == state_values else [0]
            self.refuses(function, [SMALL, (0, 1), *rest], 1, BadRate, is_rate)
        for model, states in ((SMALL, 2), (three, 3)):
            for function, arguments, at in ((chances_at, [model, 0], 1), (spread_of, [model, (0, 1), 0], 2),
                                            (first_chance, [model, 0, 0], 1), (first_chance, [model, 0, 0], 2)):
                self.refuses(function, arguments, at, BadState, is_time(0, states - 1))
                for state in (-1, states, True, False):
                    self.is_told(BadState, function, *arguments[:at], state, *arguments[at + 1:])

    def test_leftmost_error(self):
        bad = (SMALL[0], (SMALL[1][0], ()))
        self.first_error_wins(state_values, [SMALL, (0, 1)], [(bad, BadModel), ((-1, 1), BadRate)])
        self.first_error_wins(chances_at, [SMALL, 0], [(bad, BadModel), (2, BadState)])
        self.first_error_wins(spread_of, [SMALL, (0, 1), 0], [(bad, BadModel), ((-1, 1), BadRate), (2, BadState)])
        self.first_error_wins(first_chance, [SMALL, 0, 0], [(bad, BadModel), (None, BadState), (2, BadState)])

    def test_arguments_stay(self):
        model = made(random.Random(56), 3, 3)
        self.keeps_arguments(state_values, model, (1, 10))
        self.keeps_arguments(chances_at, model, 1)
        self.keeps_arguments(spread_of, model, (1, 10), 2)
        self.keeps_arguments(first_chance, model, 1, 2)


if __name__ == "__main__":
    unittest.main()
