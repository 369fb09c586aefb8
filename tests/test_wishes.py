"""Points 25, 26 and 27: wishes."""

import unittest

from boastrow.errors import NoNumber, NoPlace, NoRow, NoSaying
from boastrow.shelves import book, shelf_of
from boastrow.wishes import companies, companies_between, least_from, wishes
from tests.helper import (
    BIG, GREATEST, WRONG_NUMBERS, WRONG_ROWS, check_refusals, long_row, near, numbers_of, some_rows, walked,
    walked_total, wrong_places,
)

ROW = [(1, 2), (0, 0), (3, None), (2, 5)]
REACH = 40


def as_stretch(numbers, endless):
    """Numbers side by side as a stretch, None where there are none."""
    if not numbers:
        return None
    assert numbers == list(range(numbers[0], numbers[-1] + 1))
    return (numbers[0], None if endless else numbers[-1])


class Wishes(unittest.TestCase):
    def test_by_hand(self):
        self.assertEqual(wishes([], 7), [7])
        self.assertEqual(wishes((), 0), [0])
        self.assertEqual(wishes([(0, 0)], 1), [1, 0])
        self.assertEqual(wishes([(0, 0)], 2), [2, 2])
        self.assertEqual(wishes([(2, 4)], 2), [2, 2])
        self.assertEqual([wishes([(2, 4)], many)[1] for many in range(8)], [0, 1, 2, 2, 3, 4, 6, 7])
        self.assertEqual([wishes([(2, None)], many)[1] for many in (1, 2, 3, 9, BIG)], [1, 2, 2, 8, BIG - 1])
        self.assertEqual(wishes([(2, None), (0, 0), (3, 4)], 5), [5, 4, 4, 3])

    def test_as_handed_on(self):
        for row in some_rows(191, 100, 8, 8):
            totals = [walked_total(row, company) for company in range(REACH)]
            for many in range(20):
                told = wishes(row, many)
                self.assertIsInstance(told, list)
                self.assertEqual(wishes(tuple(row), many), told)
                self.assertEqual((told[0], len(told)), (many, len(row) + 1))
                for place, (least, most) in enumerate(row):
                    less = least < told[place] and (most is None or told[place] <= most + 1)
                    self.assertEqual(told[place + 1], told[place] - 1 if less else told[place])
                self.assertEqual(told[-1], [c for c in range(REACH) if totals[c] >= many][0])
                self.assertEqual(told[-1], book(shelf_of(row), many))

    def test_two_hundred_people_of_thirty_figures(self):
        for row in (long_row(192, 150), long_row(193, GREATEST)):
            for many in near(numbers_of(row)[::40], 1) + [GREATEST]:
                company = wishes(row, many)[-1]
                self.assertGreaterEqual(walked_total(row, company), many)
                self.assertTrue(company == 0 or walked_total(row, company - 1) < many)

    def test_refused(self):
        check_refusals(self, wishes, [ROW, 3], [(WRONG_ROWS, NoRow), (WRONG_NUMBERS, NoNumber)])


class Companies(unittest.TestCase):
    def test_of_a_total(self):
        never = 0
        for row in some_rows(194, 100, 8, 8):
            totals = [walked_total(row, company) for company in range(REACH)]
            for total in range(22):
                good = [c for c in range(REACH) if totals[c] == total]
                told = companies(row, total)
                self.assertEqual(told, as_stretch(good, False))
                never += told is None
        self.assertTrue(never)

    def test_of_0(self):
        self.assertEqual(companies([], 0), (0, 0))
        self.assertEqual(companies((), 5), (5, 5))
        self.assertIsNone(companies([(0, 0)], 0))
        self.assertEqual(companies([(0, 0)], 1), (0, 1))

    def test_between(self):
        never = 0
        for row in some_rows(195, 60, 7, 7):
            totals = [walked_total(row, company) for company in range(REACH)]
            for least in range(14):
                for most in list(range(least, 15)) + [None]:
                    good = [c for c in range(REACH) if totals[c] >= least and (most is None or totals[c] <= most)]
                    told = companies_between(row, least, most)
                    self.assertEqual(told, as_stretch(good, most is None))
                    never += told is None
        self.assertTrue(never)

    def test_long_and_far_out(self):
        for row in (long_row(196, 150), long_row(197, GREATEST), [(BIG, BIG)] * 200):
            for total in near(numbers_of(row)[::30], 1):
                told = companies(row, total)
                if told is None:
                    company = wishes(row, total)[-1]
                    self.assertGreater(walked_total(row, company), total)
                    self.assertTrue(company == 0 or walked_total(row, company - 1) < total)
                else:
                    self.check_ends(row, told, total, total)
                self.check_ends(row, companies_between(row, total, total + BIG), total, total + BIG)

    def check_ends(self, row, told, least, most):
        first, last = told
        self.assertTrue(least <= walked_total(row, first) and walked_total(row, last) <= most)
        self.assertTrue(first == 0 or walked_total(row, first - 1) < least)
        self.assertGreater(walked_total(row, last + 1), most)

    def test_refused(self):
        check_refusals(self, companies, [ROW, 3], [(WRONG_ROWS, NoRow), (WRONG_NUMBERS, NoNumber)])
        rows = (WRONG_ROWS, NoRow)
        lasts = [wrong for wrong in WRONG_NUMBERS if wrong is not None] + [0, 2]
        faults = [rows, (WRONG_NUMBERS, NoSaying), (lasts, NoSaying)]
        check_refusals(self, companies_between, [ROW, 3, 5], faults)


class LeastFrom(unittest.TestCase):
    def test_each_number_of_people_at_the_front(self):
        for row in some_rows(198, 60, 7, 8):
            for place in range(len(row) + 1):
                manies = [c + walked(row, c)[0][place:].count(True) for c in range(REACH)]
                for many in range(20):
                    good = [c for c in range(REACH) if manies[c] >= many]
                    self.assertEqual(least_from(row, place, many), good[0])
                    self.assertEqual(least_from(tuple(row), place, many), good[0])

    def test_all_at_the_front(self):
        for many in (0, 3, BIG, GREATEST):
            self.assertEqual(least_from(ROW, 4, many), many)
            self.assertEqual(least_from([], 0, many), many)
            self.assertEqual(least_from(ROW, 0, many), wishes(ROW, many)[-1])

    def test_long(self):
        row = long_row(199, GREATEST)
        for place in (0, 1, 99, 199, 200):
            for many in (0, 7, BIG, GREATEST):
                self.assertEqual(least_from(row, place, many), wishes(row[place:], many)[-1])

    def test_refused(self):
        faults = [(WRONG_ROWS, NoRow), (wrong_places(5), NoPlace), (WRONG_NUMBERS, NoNumber)]
        check_refusals(self, least_from, [ROW, 4, 3], faults)
