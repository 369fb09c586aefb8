"""Points 9 and 12: walks along a row."""

import unittest

from boastrow.errors import NoNumber, NoPlace, NoRow
from boastrow.walks import hindmost, swayed, true_between
from tests.helper import (
    BIG, GREATEST, WRONG_NUMBERS, WRONG_ROWS, check_refusals, long_row, near, numbers_of, some_rows, walked,
    wrong_places,
)

ROW = [(1, 2), (0, 0), (3, None), (2, 5)]


def swayed_slowly(row, company, place):
    """The same, as everybody ahead is asked anew."""
    told = walked(row, company)[0]
    turned = list(told)
    turned[place] = not told[place]
    for at in range(place - 1, -1, -1):
        hears = company + turned[at + 1:].count(True)
        least, most = row[at]
        turned[at] = least <= hears and (most is None or hears <= most)
    places = [at for at in range(place) if turned[at] != told[at]]
    return (places, company + turned.count(True))


class Swayed(unittest.TestCase):
    def test_by_hand(self):
        self.assertEqual(swayed([(0, 0), (1, 1)], 1, 1), ([], 1))
        self.assertEqual(swayed([(0, 0), (1, 1)], 0, 1), ([0], 1))
        self.assertEqual(swayed([(2, 2), (0, 9)], 1, 1), ([0], 1))
        self.assertEqual(swayed([(0, 9), (0, 9)], 1, 1), ([], 2))
        self.assertEqual(swayed([(0, 9), (0, 9)], 1, 0), ([], 2))
        self.assertEqual(swayed([(0, 9)], 10, 0), ([], 11))

    def test_each_place(self):
        nobody = somebody = 0
        for row in some_rows(91, 60, 8, 8):
            for company in range(16):
                for place in range(len(row)):
                    for given in (row, tuple(row)):
                        told = swayed(given, company, place)
                        self.assertEqual(told, swayed_slowly(row, company, place))
                    self.assertIsInstance(told, tuple)
                    self.assertIsInstance(told[0], list)
                    nobody += not told[0]
                    somebody += len(told[0]) > 1
        self.assertTrue(nobody and somebody)

    def test_long_and_far_out(self):
        for row in (long_row(92, 150), long_row(93, GREATEST)):
            for company in (0, 80, BIG):
                for place in (0, 1, 77, 198, 199):
                    self.assertEqual(swayed(row, company, place), swayed_slowly(row, company, place))

    def test_refused(self):
        faults = [(WRONG_ROWS, NoRow), (WRONG_NUMBERS, NoNumber), (wrong_places(4), NoPlace)]
        check_refusals(self, swayed, [ROW, 3, 3], faults)
        with self.assertRaises(NoPlace):
            swayed([], 0, 0)


class Between(unittest.TestCase):
    def test_each_two_places(self):
        for row in some_rows(94, 40, 7, 8):
            for company in range(12):
                told = walked(row, company)[0]
                for first in range(len(row) + 1):
                    self.assertEqual(true_between(row, company, first), told[first:].count(True))
                    self.assertEqual(true_between(row, company, first, last=None), told[first:].count(True))
                    for last in range(first, len(row) + 1):
                        self.assertEqual(true_between(row, company, first, last=last), told[first:last].count(True))

    def test_the_same_place_twice(self):
        for place in range(5):
            self.assertEqual(true_between(ROW, 3, place, last=place), 0)

    def test_nobody(self):
        self.assertEqual(true_between([], 7, 0), 0)
        self.assertEqual(true_between((), 7, 0, last=0), 0)

    def test_long_and_far_out(self):
        for row in (long_row(95, 150), tuple(long_row(96, GREATEST))):
            for company in (0, 80, BIG, GREATEST):
                told = walked(row, company)[0]
                for first, last in ((0, 200), (0, 0), (3, 197), (199, 200), (200, 200)):
                    self.assertEqual(true_between(row, company, first, last=last), told[first:last].count(True))

    def test_refused(self):
        def named(row, company, first, last):
            return true_between(row, company, first, last=last)

        rows, numbers = (WRONG_ROWS, NoRow), (WRONG_NUMBERS, NoNumber)
        check_refusals(self, true_between, [ROW, 3, 4], [rows, numbers, (wrong_places(5), NoPlace)])
        lasts = [wrong for wrong in wrong_places(5) if wrong is not None] + [0, 1]
        faults = [rows, numbers, (wrong_places(5), NoPlace), (lasts, NoPlace)]
        check_refusals(self, named, [ROW, 3, 2, 4], faults)

    def test_a_second_place_that_is_less(self):
        for first in range(5):
            for last in range(first):
                with self.assertRaises(NoPlace):
                    true_between(ROW, 3, first, last=last)

    def test_last_is_handed_by_its_name(self):
        with self.assertRaises(TypeError):
            true_between(ROW, 3, 0, 1)


class Hindmost(unittest.TestCase):
    def test_each_many(self):
        for row in some_rows(97, 60, 8, 8):
            for company in range(12):
                told = walked(row, company)[0]
                self.assertEqual(hindmost(row, company, 0), len(row))
                for many in range(len(row) + 3):
                    good = [at for at in range(len(row) + 1) if told[at:].count(True) >= many]
                    self.assertEqual(hindmost(row, company, many), good[-1] if good else None)

    def test_the_company_is_not_counted(self):
        self.assertIsNone(hindmost([(0, 0)], 9, 1))
        self.assertIsNone(hindmost([], 9, 1))
        self.assertEqual(hindmost([(9, 9)], 9, 1), 0)

    def test_long_and_far_out(self):
        row = [(0, None)] * 200
        for many in near([0, 100, 200]):
            self.assertEqual(hindmost(row, BIG, many), 200 - many if many <= 200 else None)
        for row in (long_row(98, 150), long_row(99, GREATEST)):
            for company in near(numbers_of(row)[:6], 1):
                told = walked(row, company)[0]
                self.assertIsNone(hindmost(row, company, told.count(True) + 1))
                self.assertIsNone(hindmost(row, company, BIG))
                if any(told):
                    self.assertEqual(hindmost(row, company, told.count(True)), told.index(True))

    def test_refused(self):
        faults = [(WRONG_ROWS, NoRow), (WRONG_NUMBERS, NoNumber), (WRONG_NUMBERS, NoNumber)]
        check_refusals(self, hindmost, [ROW, 3, 1], faults)
