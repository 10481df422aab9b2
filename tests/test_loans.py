"""Point 7: loans."""

import unittest
from fractions import Fraction

from actuarium.errors import BadAmount, BadRate, BadTime
from actuarium.loans import left_of_loan, loan_rows
from tests.support import Checks, fraction, is_rate, is_time, ratio, value_of

RATES = [(0, 1), (1, 10), (-1, 10), (1, 1), (-1, 2), (1000, 1), (-999, 1000), (37, 1000)]
YEARS = [1, 2, 3, 7, 40]


class LoansTest(Checks, unittest.TestCase):
    def test_examples(self):
        found = [loan_rows(100, (1, 10), 1), left_of_loan(210, (1, 10), 2, 1)]
        self.same(found, [(((110, 1), (10, 1), (100, 1), (0, 1)),), (110, 1)])

    def test_year_by_year(self):
        for rate in RATES:
            for years in YEARS:
                for amount in (1, 999, 10**6):
                    # What is left grows by the payment in a straight line, so two tries tell the right payment.
                    ends = []
                    for paid in (0, 1):
                        left = Fraction(amount)
                        for _ in range(years):
                            left = left * (1 + fraction(rate)) - paid
                        ends.append(left)
                    paid = ends[0] / (ends[0] - ends[1])
                    left, rows = Fraction(amount), []
                    for _ in range(years):
                        interest = fraction(rate) * left
                        left = left + interest - paid
                        rows.append((ratio(paid), ratio(interest), ratio(paid - interest), ratio(left)))
                    self.assertEqual(left, 0)
                    self.same(loan_rows(amount, rate, years), tuple(rows))

    def test_left_of_loan(self):
        for rate in RATES:
            for years in YEARS:
                rows = loan_rows(1234, rate, years)
                self.same(left_of_loan(1234, rate, years, 0), (1234, 1))
                self.same(left_of_loan(1234, rate, years, years), (0, 1))
                for time in range(1, years + 1):
                    self.same(left_of_loan(1234, rate, years, time), rows[time - 1][3])

    def test_rows_fit(self):
        for rate in RATES:
            rows = loan_rows(500, rate, 6)
            self.assertEqual(value_of((0, *[fraction(row[0]) for row in rows]), rate), 500)
            self.assertEqual(sum(fraction(row[2]) for row in rows), 500)
            for row in rows:
                self.assertEqual(fraction(row[0]), fraction(row[1]) + fraction(row[2]))

    def test_edges(self):
        self.same(loan_rows(3, (0, 1), 2), (((3, 2), (0, 1), (3, 2), (3, 2)), ((3, 2), (0, 1), (3, 2), (0, 1))))
        self.same(loan_rows(8, (-1, 2), 1), (((4, 1), (-4, 1), (8, 1), (0, 1)),))
        self.assertEqual(len(loan_rows(10**6, (1, 3), 40)), 40)
        self.same(left_of_loan(1, (0, 1), 40, 39), (1, 40))

    def test_wrong_values(self):
        for function, rest in ((loan_rows, []), (left_of_loan, [0])):
            good = [100, (1, 10), 2, *rest]
            self.refuses(function, good, 0, BadAmount, is_time(1, 10**6))
            self.refuses(function, good, 1, BadRate, is_rate)
            self.refuses(function, good, 2, BadTime, is_time(1, 40))
            for amount in (0, -1, 10**6 + 1, True):
                self.is_told(BadAmount, function, amount, *good[1:])
            for years in (0, 41, True, None):
                self.is_told(BadTime, function, 100, (1, 10), years, *rest)
        self.refuses(left_of_loan, [100, (1, 10), 2, 0], 3, BadTime, is_time(0, 2))
        for time in (-1, 3, True, False):
            self.is_told(BadTime, left_of_loan, 100, (1, 10), 2, time)

    def test_leftmost_error(self):
        faults = [(0, BadAmount), ((2, 2), BadRate), (41, BadTime)]
        self.first_error_wins(loan_rows, [1, (0, 1), 1], faults)
        self.first_error_wins(left_of_loan, [1, (0, 1), 1, 0], [*faults, (3, BadTime)])

    def test_arguments_stay(self):
        self.keeps_arguments(loan_rows, 100, (1, 10), 3)
        self.keeps_arguments(left_of_loan, 100, (1, 10), 3, 2)


if __name__ == "__main__":
    unittest.main()
