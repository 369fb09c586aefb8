"""Points 6, 7, 8, 10 and 11: rows."""

import unittest

from boastrow.errors import NoNumber, NoPlace, NoRow, NoSaying
from boastrow.rows import (
    changed, comes, heard, is_number, is_row, is_saying, parted, put_in, taken, total, words,
)
from tests.helper import (
    BIG, GREATEST, WRONG_NUMBERS, WRONG_ROWS, WRONG_SAYINGS, check_refusals, long_row, near, numbers_of, some_rows,
    walked, wrong_places,
)

ROW = [(1, 2), (0, 0), (3, None), (2, 5)]


class Forms(unittest.TestCase):
    def test_numbers(self):
        for thing in (0, 1, 7, BIG, GREATEST):
            self.assertIs(is_number(thing), True)
        for thing in WRONG_NUMBERS:
            self.assertIs(is_number(thing), False, thing)

    def test_sayings(self):
        for thing in ((0, 0), (0, None), (3, 3), (3, 4), (0, BIG), (BIG, BIG), (BIG, None), (BIG, GREATEST)):
            self.assertIs(is_saying(thing), True, thing)
        for thing in WRONG_SAYINGS:
            self.assertIs(is_saying(thing), False, thing)

    def test_rows(self):
        for thing in ([], (), [(0, 0)], ((0, 0),), ROW, tuple(ROW), [(0, None)] * 200):
            self.assertIs(is_row(thing), True, thing)
        for thing in WRONG_ROWS:
            self.assertIs(is_row(thing), False, thing)

    def test_a_row_is_looked_at_whole(self):
        for place in range(200):
            row = [(0, 1)] * 200
            row[place] = (1, 0)
            self.assertIs(is_row(row), False)


class Told(unittest.TestCase):
    def test_nobody(self):
        for row in ([], ()):
            for company in (0, 5, GREATEST):
                self.assertEqual(words(row, company), [])
                self.assertEqual(heard(row, company), [])
                self.assertEqual(total(row, company), company)
                self.assertEqual(comes(row, company, 0), company)

    def test_one_by_hand(self):
        # The two at the back hear 2 and 3, as they say; the two in front hear 4, which neither says.
        self.assertEqual(heard(ROW, 2), [4, 4, 3, 2])
        self.assertEqual(words(ROW, 2), [False, False, True, True])
        self.assertEqual(total(ROW, 2), 4)

    def test_edges_of_a_saying(self):
        for least, most in ((0, 0), (0, 4), (3, 3), (3, 5), (BIG, BIG + 2)):
            for company in near([least, most]):
                self.assertEqual(words([(least, most)], company), [least <= company <= most])
        for company in near([0, 6, BIG]):
            self.assertEqual(words([(6, None)], company), [company >= 6])

    def test_few_people_of_each_company(self):
        for row in some_rows(71, 60, 7, 9):
            for company in range(25):
                self.check(row, company)
                self.check(tuple(row), company)

    def test_thirty_figures(self):
        for row in some_rows(72, 20, 12, GREATEST):
            for company in near(numbers_of(row), 1) + [GREATEST]:
                self.check(row, company)

    def test_two_hundred_people(self):
        for row in (long_row(73, 150), long_row(74, 400), long_row(75, GREATEST), [(0, None)] * 200, [(9, 9)] * 200):
            for company in (0, 1, 9, 77, 200, BIG, GREATEST):
                self.check(row, company)

    def check(self, row, company):
        told, hears, together = walked(row, company)
        self.assertEqual(words(row, company), told)
        self.assertTrue(all(isinstance(word, bool) for word in words(row, company)))
        self.assertIsInstance(words(row, company), list)
        self.assertEqual(heard(row, company), hears)
        self.assertIsInstance(heard(row, company), list)
        self.assertEqual(total(row, company), together)
        for place in range(len(row) + 1):
            self.assertEqual(comes(row, company, place), company + told[place:].count(True))

    def test_what_comes_at_the_ends(self):
        for row in some_rows(76, 30, 6, 8):
            for company in (0, 3, 12):
                self.assertEqual(comes(row, company, len(row)), company)
                self.assertEqual(comes(row, company, 0), total(row, company))

    def test_what_comes_is_heard_ahead(self):
        for row in some_rows(77, 40, 8, 8):
            for company in range(12):
                told = heard([(4, 4)] + row, company)
                self.assertEqual(told, [comes(row, company, place) for place in range(len(row) + 1)])

    def test_one_more_of_the_company(self):
        seen = set()
        for row in some_rows(78, 80, 9, 9):
            for company in range(25):
                grown = total(row, company + 1) - total(row, company)
                self.assertGreaterEqual(grown, 0)
                seen.add(min(grown, 2))
        self.assertEqual(seen, {0, 1, 2})


class ComesOfEachPlace(unittest.TestCase):
    def test_two_hundred_people_against_the_numbers_from_the_back(self):
        for row in (long_row(701, GREATEST), long_row(702, 250), [(0, None)] * 200, [(BIG, BIG)] * 200):
            for company in (0, 3, 120, BIG, GREATEST):
                told, _, together = walked(row, company)
                for given in (row, tuple(row)):
                    found = [comes(given, company, place) for place in range(201)]
                    self.assertEqual(found, [company + told[place:].count(True) for place in range(201)])
                self.assertEqual((found[0], found[200]), (together, company))

    def test_a_fault_ahead_of_the_place_or_behind_it(self):
        for at in (0, 1, 99, 100, 101, 198, 199):
            for wrong in WRONG_SAYINGS:
                row = long_row(703, GREATEST)
                row[at] = wrong
                for place in (0, 1, 99, 100, 101, 198, 199, 200):
                    for given in (row, tuple(row)):
                        with self.assertRaises(NoRow):
                            comes(given, 7, place)

    def test_a_fault_goes_ahead_of_the_company_and_the_place(self):
        for at in (0, 100, 199):
            row = long_row(704, GREATEST)
            row[at] = (2, 1)
            for company, place in ((-1, 200), (None, 0), (7, 201), (7, -1), (True, None)):
                with self.assertRaises(NoRow):
                    comes(row, company, place)


class Anew(unittest.TestCase):
    def test_put_in(self):
        for row in some_rows(79, 20, 6, 9):
            for place in range(len(row) + 1):
                for given in (list(row), tuple(row)):
                    told = put_in(given, place, (2, 9))
                    self.assertIsInstance(told, list)
                    self.assertEqual(told[place], (2, 9))
                    self.assertEqual(told[:place] + told[place + 1:], row)
                    self.assertEqual(list(given), row)
        self.assertEqual(put_in(ROW, 4, (0, None)), ROW + [(0, None)])
        self.assertEqual(put_in((), 0, (0, BIG)), [(0, BIG)])

    def test_taken(self):
        for place in range(4):
            for given in (list(ROW), tuple(ROW)):
                told = taken(given, place)
                self.assertIsInstance(told, list)
                self.assertEqual(told, [ROW[at] for at in range(4) if at != place])
                self.assertEqual(list(given), ROW)
        self.assertEqual(taken([(1, 1)], 0), [])

    def test_changed(self):
        for place in range(4):
            for given in (list(ROW), tuple(ROW)):
                told = changed(given, place, (8, None))
                self.assertIsInstance(told, list)
                self.assertEqual(told, [(8, None) if at == place else ROW[at] for at in range(4)])
                self.assertEqual(list(given), ROW)

    def test_parted(self):
        for place in range(5):
            for given in (list(ROW), tuple(ROW)):
                told = parted(given, place)
                self.assertIsInstance(told, tuple)
                self.assertEqual(told, (ROW[:place], ROW[place:]))
                self.assertIsInstance(told[0], list)
                self.assertIsInstance(told[1], list)
                self.assertIsNot(told[0], given)
                self.assertIsNot(told[1], given)
                self.assertEqual(list(given), ROW)
        self.assertEqual(parted((), 0), ([], []))

    def test_two_hundred_people(self):
        row = long_row(80, GREATEST)
        for place in (0, 1, 100, 199):
            self.assertEqual(put_in(taken(row, place), place, row[place]), row)
            self.assertEqual(changed(row, place, (1, 1))[place], (1, 1))
            front, back = parted(row, place)
            self.assertEqual((len(front), front + back), (place, row))


class Refused(unittest.TestCase):
    def test_of_a_row_and_a_company(self):
        for call in (words, heard, total):
            check_refusals(self, call, [ROW, 3], [(WRONG_ROWS, NoRow), (WRONG_NUMBERS, NoNumber)])

    def test_comes(self):
        faults = [(WRONG_ROWS, NoRow), (WRONG_NUMBERS, NoNumber), (wrong_places(5), NoPlace)]
        check_refusals(self, comes, [ROW, 3, 4], faults)

    def test_rows_anew(self):
        row, saying = (WRONG_ROWS, NoRow), (WRONG_SAYINGS, NoSaying)
        check_refusals(self, put_in, [ROW, 4, (0, 1)], [row, (wrong_places(5), NoPlace), saying])
        check_refusals(self, changed, [ROW, 3, (0, 1)], [row, (wrong_places(4), NoPlace), saying])
        check_refusals(self, taken, [ROW, 3], [row, (wrong_places(4), NoPlace)])
        check_refusals(self, parted, [ROW, 4], [row, (wrong_places(5), NoPlace)])

    def test_places_of_nobody(self):
        for call, args in ((taken, ([], 0)), (changed, ((), 0, (0, 0)))):
            with self.assertRaises(NoPlace):
                call(*args)
