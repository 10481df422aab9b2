"""Point 22: triangles of claims."""

import random
import unittest
from fractions import Fraction

from actuarium.errors import BadTriangle
from actuarium.triangles import factors, marginal_fit, shows_fit, spreads, ultimates
from tests.support import ANYTHING, Checks, fraction, is_int, is_ratio, places, ratio, ratios, replaced, short

FUNCTIONS = [factors, ultimates, marginal_fit, spreads]
SMALL = ((100, 50), (200,))
THREE = ((6, 3, 1), (4, 3), (10,))


def bad_index(value):
    """Tell slowly the index of BadTriangle, False if this is a triangle."""
    if type(value) is not tuple or len(value) not in range(2, 7):
        return None
    many = len(value)
    for at, row in enumerate(value):
        if type(row) is not tuple or len(row) != many - at or not all(is_int(entry, 0, 10**6) for entry in row):
            return at
    for years in range(1, many):
        if sum(sum(row[:years]) for row in value if len(row) > years) == 0:
            return many
    return False


def paid_by(triangle, row, years):
    """The sum of the first so many entries of a row, entry by entry."""
    return sum(triangle[row][year] for year in range(years))


def slow_factors(triangle):
    many = len(triangle)
    found = []
    for years in range(1, many):
        rows = [row for row in range(many) if many - row > years]
        found.append(Fraction(sum(paid_by(triangle, row, years + 1) for row in rows),
                              sum(paid_by(triangle, row, years) for row in rows)))
    return found


def slow_ultimates(triangle):
    """Grow each row year by year to its end."""
    found = []
    for row in triangle:
        value = Fraction(sum(row))
        for factor in slow_factors(triangle)[len(row) - 1:]:
            value *= factor
        found.append(value)
    return found


def slow_spreads(triangle):
    many, found = len(triangle), []
    for years in range(1, many - 1):
        rows = [row for row in range(many) if many - row > years]
        squares = Fraction(0)
        for row in rows:
            before = paid_by(triangle, row, years)
            if before:
                stray = Fraction(paid_by(triangle, row, years + 1), before) - slow_factors(triangle)[years - 1]
                squares += before * stray**2
        found.append(squares / (len(rows) - 1))
    return found


def is_fit(triangle, value):
    """Tell slowly whether a value is a pair of years and parts with the right sums."""
    many = len(triangle)
    if type(value) is not tuple or len(value) != 2:
        return False
    for side in value:
        if type(side) is not tuple or len(side) != many or not all(map(is_ratio, side)):
            return False
    years, parts = [[fraction(entry) for entry in side] for side in value]
    cells = [(row, column) for row in range(many) for column in range(many - row)]
    for line in range(many):
        if sum(years[row] * parts[column] - triangle[row][column] for row, column in cells if row == line) != 0:
            return False
        if sum(years[row] * parts[column] - triangle[row][column] for row, column in cells if column == line) != 0:
            return False
    return sum(parts) == 1


def some_triangles():
    chance = random.Random(111)
    yield from (SMALL, THREE, ((10**6,) * 2, (10**6,)), ((1, 0), (0,)), ((0, 7, 3), (5, 0), (0,)), ((5, 0, 0), (0, 0), (0,)))
    yield tuple((10**6,) * (6 - row) for row in range(6))
    # Rows whose first entries sum to 0.
    yield ((1, 0, 0, 9), (0, 0, 2), (0, 4), (5,))
    yield ((0, 2, 0, 9), (0, 0, 0), (3, 0), (0,))
    for many in (2, 3, 4, 5, 6):
        for most in (3, 100, 10**6):
            for _ in range(8):
                triangle = tuple(tuple(chance.choice((0, chance.randint(0, most))) for _ in range(many - row))
                                 for row in range(many))
                if bad_index(triangle) is False:
                    yield triangle


class TrianglesTest(Checks, unittest.TestCase):
    def test_examples(self):
        found = [factors(SMALL), ultimates(SMALL), marginal_fit(SMALL)]
        self.same(found, [((3, 2),), ((150, 1), (300, 1)), (((150, 1), (300, 1)), ((2, 3), (1, 3)))])

    def test_by_hand(self):
        # (9 + 7) / (6 + 4), and 10 / 9.
        self.same(factors(THREE), ((8, 5), (10, 9)))
        self.same(ultimates(THREE), ((10, 1), (70, 9), (160, 9)))
        # 6 times (3/2 - 8/5) squared, and 4 times (7/4 - 8/5) squared.
        self.same(spreads(THREE), ((3, 20),))
        self.same(marginal_fit(THREE)[1], ((9, 16), (27, 80), (1, 10)))

    def test_entry_by_entry(self):
        many = 0
        for triangle in some_triangles():
            many += 1
            self.same(factors(triangle), ratios(slow_factors(triangle)))
            self.same(ultimates(triangle), ratios(slow_ultimates(triangle)))
            self.same(spreads(triangle), ratios(slow_spreads(triangle)))
        self.assertGreater(many, 60)

    def test_fits(self):
        for triangle in some_triangles():
            fit = marginal_fit(triangle)
            self.same(fit[0], ultimates(triangle))
            self.assertTrue(is_fit(triangle, fit), (triangle, fit))
            self.same(shows_fit(triangle, fit), True)
            # Part by part, from what is paid of 1 by the end of each year.
            paid = [Fraction(1)]
            for factor in reversed(slow_factors(triangle)):
                paid.insert(0, paid[0] / factor)
            self.same(fit[1], ratios(now - before for now, before in zip(paid, [0, *paid])))

    def test_zeros(self):
        self.same([function(((1, 0), (0,))) for function in FUNCTIONS],
                  [((1, 1),), ((1, 1), (0, 1)), (((1, 1), (0, 1)), ((1, 1), (0, 1))), ()])
        triangle = ((0, 7, 3), (5, 0), (0,))
        self.same(factors(triangle), ((12, 5), (10, 7)))
        # The row that begins with 0 is left out of the sum, and counts among the two rows: 5 (1 - 12/5)^2 / 1.
        self.same(spreads(triangle), ((49, 5),))
        # One row each time is not left out, with the factors 1 and 1 beside 5 and 3: 16 / 2 and 4 / 1.
        self.same(spreads(((1, 0, 0, 9), (0, 0, 2), (0, 4), (5,))), ((8, 1), (4, 1)))

    def test_spreads_of_two_rows(self):
        for triangle in (SMALL, ((1, 0), (0,)), ((7, 7), (10**6,))):
            self.same(spreads(triangle), ())

    def test_rows_left_out_count(self):
        # Three rows have more than one entry; the first entries of two of them are 0.
        triangle = ((2, 2, 0, 1), (0, 1, 1), (0, 0), (4,))
        self.same(factors(triangle)[0], (5, 2))
        self.same(spreads(triangle)[0], ratio(2 * Fraction(1, 4) / 2))


class FitTest(Checks, unittest.TestCase):
    def shows(self, value, wanted, triangle=THREE):
        self.assertEqual(is_fit(triangle, value), wanted, short(value))
        self.same(shows_fit(triangle, value), wanted)

    def test_other_sums(self):
        years, parts = marginal_fit(THREE)
        self.shows((years, parts), True)
        doubled = (tuple(ratio(2 * fraction(year)) for year in years), tuple(ratio(fraction(part) / 2) for part in parts))
        self.shows(doubled, False)
        self.shows((doubled[0], parts), False)
        self.shows((years, doubled[1]), False)
        self.shows((parts, years), False)
        self.shows((years, parts[::-1]), False)
        self.shows((years[::-1], parts), False)
        for side in (0, 1):
            for at in range(3):
                for change in (1, -1, Fraction(1, 1000)):
                    changed = ratio(fraction((years, parts)[side][at]) + change)
                    self.shows(replaced((years, parts), (side, at), changed), False)
        for first, second in ((0, 1), (1, 2), (0, 2)):
            moved = replaced(replaced(parts, (first,), ratio(fraction(parts[first]) + Fraction(1, 9))), (second,),
                             ratio(fraction(parts[second]) - Fraction(1, 9)))
            self.shows((years, moved), False)

    def test_the_sum_of_the_parts(self):
        triangle = ((3, 0), (5,))
        self.shows((((3, 1), (5, 1)), ((1, 1), (0, 1))), True, triangle)
        # Both rows fit, and neither column.
        self.shows((((3, 1), (10, 1)), ((1, 2), (1, 2))), False, triangle)
        # Rows and columns fit here without a sum of 1.
        self.shows((((3, 2), (5, 2)), ((2, 1), (0, 1))), False, triangle)
        self.shows((((-3, 1), (-5, 1)), ((-1, 1), (0, 1))), False, triangle)

    def test_rows_alone_or_columns_alone_are_not_enough(self):
        triangle = ((1, 1), (4,))
        self.shows((((2, 1), (8, 1)), ((1, 2), (1, 2))), True, triangle)
        # All rows: 2 (1/4 + 3/4) and 16 / 4; the columns are 18/4 and 3/2 instead of 5 and 1.
        self.shows((((2, 1), (16, 1)), ((1, 4), (3, 4))), False, triangle)
        # Both columns, (2 + 8) / 2 and 2 / 2; of the rows, 2 and 8 / 2, none.
        self.shows((((2, 1), (8, 1)), ((1, 2), (1, 2))), False, ((2, 1), (3,)))
        # The second row and the first column, and nothing else.
        self.shows((((2, 1), (8, 1)), ((1, 2), (1, 2))), False, ((1, 2), (4,)))

    def test_other_forms(self):
        years, parts = fit = marginal_fit(THREE)
        for value in ((years,), (years, parts, parts), [years, parts], (list(years), parts), (years, list(parts)), (years[:2], parts),
                      (years, parts[:2]), ((*years, (0, 1)), parts), (years, (*parts, (0, 1))), years, None, (), ((), ()), {},
                      {years: parts}, (years, None), (None, parts), "fit", (fit, fit)):
            self.shows(value, False)
        for path in places(fit):
            for value in ANYTHING:
                changed = replaced(fit, path, value)
                self.shows(changed, is_fit(THREE, changed))
        for value in ANYTHING:
            for made in (value, (value,), (value, value), ((value,) * 3, parts), (years, (value,) * 3)):
                self.shows(made, False)
        self.shows((((10, 1), (70, 9), (320, 18)), parts), False)
        self.shows((((10, True), (70, 9), (160, 9)), parts), False)


class ErrorsTest(Checks, unittest.TestCase):
    def told(self, value):
        index = bad_index(value)
        self.assertIsNot(index, False)
        with self.subTest(value=short(value)):
            for function in FUNCTIONS:
                self.is_told(BadTriangle, function, value, index=index)
            for fit in (None, (), marginal_fit(SMALL)):
                self.is_told(BadTriangle, shows_fit, value, fit, index=index)

    def test_values_of_every_kind_in_every_part(self):
        for value in ANYTHING:
            self.told(value)
            for path in places(THREE):
                if bad_index(replaced(THREE, path, value)) is not False:
                    self.told(replaced(THREE, path, value))

    def test_numbers_of_rows(self):
        for many in range(8):
            triangle = tuple((1,) * (many - row) for row in range(many))
            if 2 <= many <= 6:
                self.assertEqual(len(factors(triangle)), many - 1)
            else:
                self.told(triangle)
                self.assertEqual(bad_index(triangle), None)
        for bad in (list(THREE), dict(enumerate(THREE)), THREE[:1], THREE[0]):
            self.told(bad)

    def test_rows_too_short_and_too_long(self):
        for at in range(3):
            for row in ((1,) * (2 - at), (1,) * (4 - at), list(THREE[at]), None, 5, (-1,) * (3 - at), (10**6 + 1,) * (3 - at),
                        (True,) * (3 - at), ("1",) * (3 - at)):
                self.told(replaced(THREE, (at,), row))
                self.assertEqual(bad_index(replaced(THREE, (at,), row)), at)
                for later in range(at + 1, 3):
                    self.is_told(BadTriangle, factors, replaced(replaced(THREE, (at,), row), (later,), ()), index=at)

    def test_sums_that_are_not_positive(self):
        for triangle in (((0, 5), (3,)), ((0, 5, 1), (0, 2), (3,)), ((0, 0, 1), (1, 0), (5,)), ((0, 0), (0,)),
                         ((0, 0, 0, 1), (0, 0, 2), (3, 4), (5,)), ((0, 1, 1, 1), (0, 1, 1), (0, 1), (9,)),
                         ((0,) * 6, (1,) * 5, (1,) * 4, (1,) * 3, (1,) * 2, (1,))):
            self.told(triangle)
            self.assertEqual(bad_index(triangle), len(triangle))
        # The first column may hold zeros, and the last entries may all be 0.
        self.same(factors(((0, 1, 0), (1, 0), (0,))), ((2, 1), (1, 1)))

    def test_bad_rows_come_ahead_of_sums(self):
        self.is_told(BadTriangle, factors, ((0, 5), (3, 1)), index=1)
        self.is_told(BadTriangle, factors, ((0, 5), None), index=1)

    def test_arguments_stay(self):
        for function in FUNCTIONS:
            self.keeps_arguments(function, THREE)
        self.keeps_arguments(shows_fit, THREE, marginal_fit(THREE))
        self.keeps_arguments(shows_fit, THREE, [[(1, 2)], {"a": (1, 2)}, None])


if __name__ == "__main__":
    unittest.main()
