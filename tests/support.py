"""What several tests use: values of all kinds, and slow and simple second ways."""

import copy
import itertools
import random
from fractions import Fraction
from math import gcd

from actuarium.errors import (
    BadAge, BadClaims, BadLives, BadPayments, BadPolicy, BadPremium, BadRate, BadTime)

SIMPLE = [
    0, 1, -1, 2, 7, 39, 40, 41, 60, 61, 1000, 1001, -1000, -1001, 10**6, 10**6 + 1, -10**6, -10**6 - 1, 10**5000,
    -10**5000, "", "a", "0", "1", "(0, 1)", "5, 0", True, False, None, (), [], {},
]
PAIRS = [
    (0, 1), (0, 2), (1, 1), (2, 1), (1, 2), (2, 4), (-1, 2), (-2, 4), (1, -2), (-1, -2), (1, 0), (0, 0), (0, -1),
    (-1, 1), (-2, 1), (-999, 1000), (-1000, 1000), (-1000, 999), (-1000, 1001), (1000, 1), (1001, 1), (1, 1000),
    (1, 1001), (10**6, 1), (10**6 + 1, 1), (-10**6, 1), (-10**6 - 1, 1), (1, 10**6), (1, 10**6 + 1), (0, True),
    (True, 1), (False, 1), (True, True), (1, "2"), ("1", 2), (None, 1), (1, None), (1, (2,)), (1, [2]), (1, {}),
    (1, 2, 3), (1,), ((0, 1), (0, 1)),
]
NESTED = [
    (True,), (False,), (None,), ("a",), ((),), ([],), ({},), ((1,),), ([1],), (1, True), (1, 2, None), (0, 1, "2"),
    [0], [1, 0], [0, 1], [(0, 1)], [True], [None], [[]], [{}], {0: 1}, {"a": 1}, {"a": (0, 1)}, {1: [0, {"b": None}]},
    ((0, 1),), ((1, 2), (1, 1)), ((True, 1),), ([1, 2],), ((1, 2), [1, 1]), (((0, 1),),), (1, (2, (3, [4, {5: 6}]))),
    (1,) * 40, (1,) * 41, (0,) * 40, (0,) * 41, (1,) * 39 + (True,), (10**6,) * 3, (10**6 + 1,), (-10**6,), (-10**6 - 1,),
    (2, 1, 0), (2, 1, False), (True, 0), [2, 1, 0], (2, 1, 1), (2, 3, 0), (1, 0, 0), (0, 0), (0,), (1, 0), (10**6 + 1, 0),
    (-1, 0), (2, -1, 0), (2, (1,), 0), (2, "1", 0), (2, None, 0), (40,) * 40 + (0,), (40,) * 39 + (0,),
    (1,) * 9, (1,) * 10, (1,) * 13, (1,) * 14, (0,) * 12 + (1,), (1,) * 12 + (0,), (1001,), (1000,), (0, 1001, 1), (1, -1, 1),
    (1, 1, True), (1, False, 1), (1, 1, None), (1, "1", 1), (1, (1,), 1), [1, 1], (1, [1]), {1: 1},
]
ANYTHING = SIMPLE + PAIRS + NESTED


def is_int(value, low=None, high=None):
    if type(value) is not int:
        return False
    return (low is None or value >= low) and (high is None or value <= high)


def is_ratio(value):
    if type(value) is not tuple or len(value) != 2 or not is_int(value[0]) or not is_int(value[1]):
        return False
    return value[1] > 0 and gcd(*value) == 1


def is_rate(value):
    return is_ratio(value) and is_int(value[0], -1000, 1000) and value[1] <= 1000 and value[0] + value[1] > 0


def is_payments(value):
    return type(value) is tuple and len(value) <= 40 and all(is_int(entry, -10**6, 10**6) for entry in value)


def is_plain(value):
    return is_payments(value) and all(entry >= 0 for entry in value) and any(value)


def is_lives(value):
    if type(value) is not tuple or not 2 <= len(value) <= 40 or not all(is_int(entry, 0, 10**6) for entry in value):
        return False
    return value == tuple(sorted(value, reverse=True)) and value[0] > 0 and value[-2] > 0 and value[-1] == 0


def is_chance(value):
    return is_ratio(value) and 0 <= value[0] <= value[1] <= 1000


def is_level(value):
    return is_chance(value) and value[0] < value[1]


def is_premium(value):
    return is_ratio(value) and abs(fraction(value)) <= 10**6 >= value[1]


def is_claims(value, most=13):
    if type(value) is not tuple or not 1 <= len(value) <= most:
        return False
    return all(is_int(weight, 0, 1000) for weight in value) and value[-1] != 0


def is_time(low, high):
    return lambda value: is_int(value, low, high)


def fraction(ratio):
    return Fraction(*ratio)


def ratio(number):
    number = Fraction(number)
    return (number.numerator, number.denominator)


def ratios(numbers):
    return tuple(ratio(number) for number in numbers)


def outcomes(claims):
    """List the pairs of all amounts that a claim can have and their chances."""
    return [(amount, Fraction(weight, sum(claims))) for amount, weight in enumerate(claims) if weight]


def rows_of_claims(claims, many):
    """Go through all rows of so many claims, each one with its chance."""
    for row in itertools.product(outcomes(claims), repeat=many):
        chance = Fraction(1)
        for _, part in row:
            chance *= part
        yield [amount for amount, _ in row], chance


def mean(claims):
    return sum((amount * chance for amount, chance in outcomes(claims)), Fraction(0))


def above(claims, edge):
    """The expected part of a claim above an edge, which may be any number."""
    return sum((chance * max(0, amount - edge) for amount, chance in outcomes(claims)), Fraction(0))


def places(value):
    """Go through the paths to all values that are nested in tuples, the whole one first."""
    yield ()
    if type(value) is tuple:
        for at, entry in enumerate(value):
            for path in places(entry):
                yield (at, *path)


def replaced(value, path, new):
    """Return a nested tuple with another value at the end of a path."""
    if not path:
        return new
    return (*value[:path[0]], replaced(value[path[0]], path[1:], new), *value[path[0] + 1:])


def grown(number, rate, years):
    """Move an amount by years one by one, back if they are negative."""
    number = Fraction(number)
    for _ in range(abs(years)):
        number = number * (1 + fraction(rate)) if years > 0 else number / (1 + fraction(rate))
    return number


def value_of(payments, rate, time=0):
    return sum((grown(entry, rate, time - at) for at, entry in enumerate(payments)), Fraction(0))


def people(lives, age):
    """List all who live at an age by the number of whole years that each one still completes."""
    found = []
    for later in range(age, len(lives) - 1):
        found.extend([later - age] * (lives[later] - lives[later + 1]))
    return found


GOOD_POLICY = ((4, 2, 1, 0), 1, (1, 10), (1, 2), (3, 4), (1, 2), 2)
POLICY_PARTS = [
    (BadLives, is_lives, (2, 1)), (BadAge, is_time(0, 2), 3), (BadRate, is_rate, (-1, 1)), (BadPayments, is_payments, (True,)),
    (BadPayments, is_payments, [1]), (BadPremium, is_premium, (2, 4)), (BadTime, is_time(0, 40), 41),
]


def bad_thing(value, low, high, is_good):
    """The index that the error for a value names which should be so many good things; False if there is no error."""
    if type(value) is not tuple or not low <= len(value) <= high:
        return None
    return next((at for at, thing in enumerate(value) if not is_good(thing)), False)


def is_pair(value):
    return type(value) is tuple and len(value) == 2


def is_row(value, many, low, high):
    return type(value) is tuple and len(value) == many and all(is_int(entry, low, high) for entry in value)


def entry_of(payments, time):
    return Fraction(payments[time]) if time < len(payments) else Fraction(0)


def some_policies(seed, tables, rates):
    """Go through policies at a first, a middle and the last age of each table, at each rate."""
    chance = random.Random(seed)
    for lives in tables:
        for age in sorted({0, (len(lives) - 2) // 2, len(lives) - 2}):
            for rate in rates:
                alive = tuple(chance.randint(-50, 100) for _ in range(chance.choice((0, 1, 3, 40))))
                dead = tuple(chance.randint(-50, 1000) for _ in range(chance.choice((0, 1, 3, 40))))
                premium = ratio(Fraction(chance.randint(-50, 300), chance.choice((1, 2, 7, 1000))))
                yield (lives, age, rate, alive, dead, premium, chance.choice((0, 1, 2, 3, 40)))


class Checks:
    """Checks that test cases inherit."""

    def same(self, found, wanted):
        """Equal, and of the same kinds throughout: 1 is not True, and no list is a tuple."""
        self.assertEqual(repr(found), repr(wanted))

    def is_told(self, error, function, *arguments, **fields):
        """The call raises exactly this error with these fields, and leaves its arguments as they were."""
        before = copy.deepcopy(arguments)
        with self.assertRaises(error) as caught:
            function(*arguments)
        self.assertIs(type(caught.exception), error, (function, short(arguments)))
        for name, value in fields.items():
            self.same(getattr(caught.exception, name), value)
        self.assertEqual(arguments, before)

    def refuses(self, function, arguments, at, error, allowed):
        """Every value of every kind in the place of one argument raises the error, unless it is allowed."""
        refused = 0
        for value in ANYTHING:
            if not allowed(value):
                changed = [*arguments[:at], value, *arguments[at + 1:]]
                with self.subTest(function=function.__name__, at=at, value=short(value)):
                    self.is_told(error, function, *changed)
                refused += 1
        self.assertGreater(refused, len(ANYTHING) // 3)

    def refuses_policies(self, function, *rest):
        """Whatever is no policy, as a whole or in one of its parts, raises the error of its first bad part."""
        wholes = [list(GOOD_POLICY), GOOD_POLICY[:6], (*GOOD_POLICY, 0), (GOOD_POLICY,), dict(enumerate(GOOD_POLICY))]
        for value in ANYTHING + wholes:
            with self.subTest(function=function.__name__, value=short(value)):
                self.is_told(BadPolicy, function, value, *rest)
        for at, (error, allowed, bad) in enumerate(POLICY_PARTS):
            for value in ANYTHING:
                if not allowed(value):
                    with self.subTest(function=function.__name__, at=at, value=short(value)):
                        self.is_told(error, function, replaced(GOOD_POLICY, (at,), value), *rest)
            for second in range(at, 7):
                policy = replaced(replaced(GOOD_POLICY, (second,), POLICY_PARTS[second][2]), (at,), bad)
                self.is_told(error, function, policy, *rest)
            self.is_told(error, function, (*GOOD_POLICY[:at], *[part[2] for part in POLICY_PARTS[at:]]), *rest)

    def refuses_claims(self, function, arguments, at, most=13):
        """Whatever is no claims in the place of one argument raises BadClaims."""
        self.refuses(function, arguments, at, BadClaims, lambda value: is_claims(value, most))
        good = (1, 2, 3)
        for path in places(good):
            for value in ANYTHING:
                changed = replaced(good, path, value)
                if not is_claims(changed, most):
                    self.is_told(BadClaims, function, *replaced(tuple(arguments), (at,), changed))

    def refuses_things(self, calls, good, error, bad_index, more=()):
        """Whatever is no such tuple as the first argument raises the error with the index of its first bad thing."""
        changed = [replaced(good, path, value) for path in places(good) for value in ANYTHING]
        refused = 0
        for value in [*ANYTHING, list(good), dict(enumerate(good)), (good,), [*good, None], (*good, None), *changed, *more]:
            index = bad_index(value)
            if index is not False:
                for function, rest in calls:
                    with self.subTest(function=function.__name__, value=short(value)):
                        self.is_told(error, function, value, *rest, index=index)
                        self.is_told(error, function, value, *[None for _ in rest], index=index)
                refused += 1
        self.assertGreater(refused, len(ANYTHING))

    def judges(self, shows, is_shown, good, *arguments):
        """Values of every kind, whole and in each part of a good one, are told apart as a slow second way does."""
        self.assertIs(is_shown(*arguments, good), True)
        self.same(shows(*arguments, good), True)
        alone = [*ANYTHING, list(good), dict(enumerate(good)), (good,), [good], (*good, None), {"good": good}]
        changed = [replaced(good, path, value) for path in places(good) if path for value in [*ANYTHING, [good], {1: good}]]
        wrapped = [tuple([value] * len(good)) for value in ANYTHING]
        refused = 0
        for value in alone + changed + wrapped:
            with self.subTest(value=short(value)):
                shown = is_shown(*arguments, value)
                self.same(shows(*arguments, value), shown)
                refused += not shown
        self.assertGreater(refused, 2 * len(ANYTHING))

    def first_error_wins(self, function, arguments, faults):
        """With any choice of bad arguments at once the error of the leftmost one is raised."""
        spots = range(len(faults))
        for many in range(1, len(faults) + 1):
            for chosen in itertools.combinations(spots, many):
                changed = [faults[at][0] if at in chosen else arguments[at] for at in spots]
                with self.subTest(function=function.__name__, chosen=chosen):
                    self.is_told(faults[chosen[0]][1], function, *changed)

    def keeps_arguments(self, function, *arguments):
        """The call gives the same answer twice and leaves its arguments as they were."""
        before = copy.deepcopy(arguments)
        first = function(*arguments)
        self.same(function(*arguments), first)
        self.assertEqual(repr(arguments), repr(before))
        return first


def short(value):
    """A value for a message, without its very long integers, which Python does not print."""
    if type(value) is int and abs(value) > 10**100:
        return "a long integer"
    if type(value) in (tuple, list):
        return [short(entry) for entry in value]
    return value
