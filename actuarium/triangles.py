"""Triangles of claims: how they develop, what they come to in the end, and how far rows stray."""

from actuarium.errors import BadTriangle
from actuarium.ratios import ONE, ZERO, all_multiplied, are_ratios, divided, is_row, make_ratio, minus, multiplied
from actuarium.ratios import total

MOST_ROWS = 6
MOST_PAID = 1000000


def first_sum(triangle, entries, longer):
    """Return the sum of the first so many entries of all rows that have more than `longer` entries."""
    return sum([sum(row[:entries]) for row in triangle if len(row) > longer])


def check_triangle(triangle):
    """Raise BadTriangle for a value that is not a triangle."""
    if not isinstance(triangle, tuple) or not 2 <= len(triangle) <= MOST_ROWS:
        raise BadTriangle(None)
    rows = len(triangle)
    for index, row in enumerate(triangle):
        if not is_row(row, rows - index, 0, MOST_PAID):
            raise BadTriangle(index)
    if any(first_sum(triangle, many, many) == 0 for many in range(1, rows)):
        raise BadTriangle(rows)


def factor_list(triangle):
    """Return the list of the factors from the first year on."""
    return [make_ratio(first_sum(triangle, many + 1, many), first_sum(triangle, many, many))
            for many in range(1, len(triangle))]


def ultimate_list(triangle):
    """Return the list of the sums of all rows times all factors that are still to come."""
    later = factor_list(triangle)
    return [multiplied((sum(row), 1), all_multiplied(later[len(row) - 1:])) for row in triangle]


def factors(triangle):
    """Return the factors by which the sums of the rows grow from year to year."""
    check_triangle(triangle)
    return tuple(factor_list(triangle))


def ultimates(triangle):
    """Return what each row comes to in the end."""
    check_triangle(triangle)
    return tuple(ultimate_list(triangle))


def part_list(triangle):
    """Return the list of the parts of the ultimates that are paid in the first year, the second, and so on."""
    later = factor_list(triangle)
    reached = [divided(ONE, all_multiplied(later[year:])) for year in range(len(triangle))]
    return [minus(now, before) for now, before in zip(reached, [ZERO, *reached])]


def marginal_fit(triangle):
    """Return the pair of the ultimates and of the parts with which all sums of rows and columns fit."""
    check_triangle(triangle)
    return (tuple(ultimate_list(triangle)), tuple(part_list(triangle)))


def sums_fit(lines, factors_along, factors_across):
    """Tell whether each line of cells has the sum of its factor times all factors across its cells."""
    for line, factor in zip(lines, factors_along):
        if multiplied(factor, total(factors_across[:len(line)])) != (sum(line), 1):
            return False
    return True


def columns_of(triangle):
    """Return the list of the columns of a triangle, as far as they are known."""
    return [[row[column] for row in triangle if len(row) > column] for column in range(len(triangle))]


def shows_fit(triangle, value):
    """Tell whether a value is a pair of years and parts with which all sums of rows and columns fit."""
    check_triangle(triangle)
    many = len(triangle)
    if not isinstance(value, tuple) or len(value) != 2 or not all(are_ratios(side, many) for side in value):
        return False
    years, parts = value
    if total(parts) != ONE:
        return False
    return sums_fit(triangle, years, parts) and sums_fit(columns_of(triangle), parts, years)


def spread_at(triangle, many, factor):
    """Return how far the factors of the rows stray from the factor behind their first so many entries."""
    rows = [row for row in triangle if len(row) > many]
    squares = []
    for row in rows:
        before = sum(row[:many])
        if before > 0:
            stray = minus(make_ratio(sum(row[:many + 1]), before), factor)
            squares.append(multiplied((before, 1), multiplied(stray, stray)))
    return divided(total(squares), (len(rows) - 1, 1))


def spreads(triangle):
    """Return for each year but the last one how far the factors of the rows stray."""
    check_triangle(triangle)
    later = factor_list(triangle)
    return tuple(spread_at(triangle, many, later[many - 1]) for many in range(1, len(triangle) - 1))
