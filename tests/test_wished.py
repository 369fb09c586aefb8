"""Points 36, 38, 39 and 40: wished tables, and the first of the fewest rows that have them."""

import unittest

from boastrow.errors import NoTable, TooMany
from boastrow.rows import is_saying
from boastrow.tables import is_rows, joined, never_comes, table_of, total_by
from boastrow.wished import how_few, may_lead, peeled, row_of
from tests.helper import (
    BIG, FALLING, GREATEST, WRONG_SAYINGS, WRONG_TABLES, Like, check_refusals, long_row, long_table, none_behind,
    numbers_in, rows_to, sayings_to, some_rows, some_tables,
)

# The totals of this one are 2, 3, 3, 7, 8, .. 12, 12, 12, 13.
PLACED = [(0, 2), (2, 1), (3, 4), (9, 3), (10, 2)]
FAR = [[(0, BIG)], [(0, 1), (BIG, GREATEST), (BIG + 1, GREATEST - 1)], long_table(400, BIG, 10 ** 26)]


def few_rows(people):
    """A dict: of each table of rows of up to so many people, as text, all the fewest rows with it, in order."""
    found = {}
    for many in range(people + 1):
        for row in rows_to(many, 6):
            rows = found.setdefault(str(table_of(row)), [])
            if not rows or len(rows[0]) == many:
                rows.append(row)
    return found


def small_tables(people):
    """The tables of rows of up to so many people whose fewest rows have numbers up to 6 alone."""
    out = []
    for many in range(people + 1):
        out += [table_of(row) for row in rows_to(many, 2)]
    return [table for at, table in enumerate(out) if table not in out[:at]]


class RowOf(unittest.TestCase):
    def test_by_hand(self):
        self.assertEqual(row_of([(0, 0)]), ("row", []))
        self.assertEqual(row_of([(0, 3)]), ("row", [(0, None)] * 3))
        self.assertEqual(row_of([(0, 1), (1, 0)]), ("row", [(0, 0)]))
        self.assertEqual(row_of([(0, 0), (2, 2)]), ("row", [(2, None), (2, None)]))
        self.assertEqual(row_of(PLACED), ("row", [(0, 2), (0, 11), (3, 10), (3, None), (3, None)]))

    def test_small_ones_against_all_rows(self):
        found = few_rows(3)
        for table in small_tables(3):
            self.assertEqual(row_of(table), ("row", found[str(table)][0]))
            self.assertEqual(len(found[str(table)][0]), len(numbers_in(never_comes(table))))

    def test_has_just_this_table(self):
        tables = some_tables(361, 200, 14, 5) + [table_of(row) for row in some_rows(362, 60, 9, 9)]
        tables += [table_of(long_row(363, 200)), table_of(long_row(364, GREATEST)), [(0, 300)], [(0, 0), (BIG, 300)]]
        tables += [long_table(300), long_table(300, BIG, 10 ** 26)]
        tables += [[(0, 200)] + [(c, 200 - c) for c in range(1, 200)]]
        for table in tables:
            kind, row = row_of(table)
            self.assertEqual((kind, table_of(row)), ("row", table))
            self.assertIsInstance(row, list)
            self.assertEqual(len(row), len(numbers_in(never_comes(table))))

    def test_no_row_that_comes_ahead(self):
        # Put in front of the others, no saying that comes ahead of the told one leads a fewest row.
        for table in some_tables(365, 60, 6, 3):
            row = row_of(table)[1]
            if row:
                good = [one for one in sayings_to(row[0][0] + 1) if may_lead(table, one)]
                self.assertTrue(all(none_behind(row[0]) <= none_behind(one) for one in good))

    def test_falls(self):
        for table, c in (([(0, 2), (1, 0)], 0), ([(0, 0), (4, 5), (9, 3)], 8), ([(0, 9), (BIG, 0)], BIG - 1)):
            self.assertEqual(row_of(table), ("falls", c))
        for place in range(1, 200):
            table = [(3 * c, c % 2) for c in range(201)]
            table[place] = (3 * place, table[place][1] + 4)
            later = [c for c in range(place, 200) if table[c][1] - table[c + 1][1] > 1]
            self.assertEqual(row_of(table), ("falls", 3 * later[0] + 2))
        falls = [(0, 5), (2, 4), (4, 2), (6, 0)]
        self.assertEqual(row_of(falls), ("falls", 3))

    def test_falls_goes_ahead_of_too_many(self):
        self.assertEqual(row_of([(0, BIG), (7, 0)]), ("falls", 6))
        self.assertEqual(row_of([(0, 0), (1, 2), (7, 0), (BIG, GREATEST)]), ("falls", 6))

    def test_too_many(self):
        down = [(0, 299), (1, 298), (2, 299), (3, 301)]
        for table, many in (
            ([(0, 301)], 301), (long_table(400), 400), (long_table(302), 302), ([(0, GREATEST)], GREATEST), (down, 302),
            ([(0, 1), (5, BIG)], BIG),
        ):
            with self.assertRaises(TooMany) as caught:
                row_of(table)
            self.assertEqual(caught.exception.many, many)
        self.assertEqual(len(row_of([(0, 300)])[1]), 300)
        self.assertEqual(len(row_of([(0, 298), (1, 297), (2, 298), (3, 299)])[1]), 300)

    def test_refused(self):
        check_refusals(self, row_of, [[(0, 0)]], [(WRONG_TABLES, NoTable)])


class HowFew(unittest.TestCase):
    def test_as_many_as_never_come(self):
        self.assertEqual([how_few([(0, 0)]), how_few([(0, 3)]), how_few(PLACED)], [0, 3, 5])
        for table in some_tables(366, 150, 14, 5):
            totals = [total_by(table, c) for c in range(table[-1][0] + 1)]
            self.assertEqual(how_few(table), len(set(range(totals[-1])) - set(totals)))
            self.assertEqual(how_few(table), len(row_of(table)[1]))

    def test_of_any_size(self):
        self.assertEqual([how_few(table) for table in FAR], [BIG, GREATEST, 400])
        self.assertEqual(how_few([(0, GREATEST), (1, GREATEST - 1), (2, GREATEST)]), GREATEST + 1)

    def test_refused(self):
        check_refusals(self, how_few, [[(0, 0)]], [(WRONG_TABLES + FALLING, NoTable)])


class Peeled(unittest.TestCase):
    def test_by_hand(self):
        self.assertIsNone(peeled([(0, 0)]))
        self.assertEqual(peeled([(0, 1)]), ((0, None), [(0, 0)]))
        self.assertEqual(peeled([(0, 1), (1, 0)]), ((0, 0), [(0, 0)]))
        self.assertEqual(peeled(PLACED), ((0, 2), [(0, 1), (3, 4), (9, 3), (10, 2)]))

    def test_one_behind_the_other(self):
        tables = some_tables(367, 150, 14, 5) + [table_of(row) for row in some_rows(368, 40, 9, 9)]
        tables += [table_of(long_row(369, 100)), table_of(long_row(370, GREATEST)), long_table(300, BIG, 10 ** 26)]
        tables += [[(0, 0), (5, 60)] + [(c, 65 - c) for c in range(6, 66)]]
        for table in tables:
            row = row_of(table)[1]
            for place, saying in enumerate(row):
                told, rest = peeled(table)
                self.assertEqual(told, saying)
                self.assertTrue(is_rows(rest))
                self.assertEqual(how_few(rest), len(row) - place - 1)
                if place % 50 == 0:
                    self.assertEqual(rest, table_of(row[place + 1:]))
                    self.assertEqual(row_of(rest), ("row", row[place + 1:]))
                table = rest
            self.assertIsNone(peeled(table))

    def test_far_tables(self):
        for table in FAR:
            for _ in range(30):
                many = how_few(table)
                if many:
                    saying, rest = peeled(table)
                    self.assertTrue(is_saying(saying) and is_rows(rest))
                    self.assertEqual(how_few(rest), many - 1)
                    self.assertEqual(joined(table_of([saying]), rest), table)
                    self.assertIs(may_lead(table, saying), True)
                    table = rest
        self.assertEqual(peeled(FAR[1])[0], (0, BIG + GREATEST - 1))

    def test_the_last_of_those_that_come_to_one_total(self):
        table = [(0, 0), (2, 3), (5, 2), (6, 1), (9, 0)]
        self.assertEqual(peeled(table), ((2, 6), [(0, 0), (2, 2), (5, 1), (9, 0)]))
        self.assertEqual(peeled([(0, 0), (2, 2), (5, 1), (9, 0)]), ((2, 5), [(0, 0), (2, 1), (9, 0)]))

    def test_refused(self):
        check_refusals(self, peeled, [[(0, 0)]], [(WRONG_TABLES + FALLING, NoTable)])


class MayLead(unittest.TestCase):
    def test_small_ones_against_all_rows(self):
        found = few_rows(3)
        several = 0
        for table in small_tables(3):
            leaders = [row[0] for row in found[str(table)] if row]
            several += len(set(leaders)) > 1
            for saying in sayings_to(6):
                self.assertIs(may_lead(table, saying), saying in leaders, (table, saying))
        self.assertTrue(several)

    def test_the_peeled_one(self):
        for table in some_tables(371, 150, 14, 5) + FAR + [long_table(400)]:
            if how_few(table):
                self.assertIs(may_lead(table, peeled(table)[0]), True)

    def test_far_out(self):
        table = [(0, 0), (BIG, 3), (BIG + 9, 2), (GREATEST, 1)]
        most = [BIG + 10, GREATEST, None]
        good = [(least, one) for least in range(BIG, BIG + 3) for one in most]
        for least in range(BIG - 2, BIG + 6):
            for one in [BIG + 9, BIG + 10, BIG + 11, GREATEST - 1, GREATEST, GREATEST + 1, None]:
                self.assertIs(may_lead(table, (least, one)), (least, one) in good, (least, one))

    def test_where_nobody_is_to_spare(self):
        table = [(0, 1), (3, 0), (5, 1), (8, 0)]
        self.assertIs(may_lead(table, (0, 2)), True)
        self.assertIs(may_lead(table, (0, 7)), False)
        self.assertIs(may_lead(table, (5, 7)), True)
        self.assertIs(may_lead(table, (0, None)), False)
        self.assertIs(may_lead([(0, 0)], (0, 0)), False)

    def test_other_things(self):
        for table in ([(0, 0)], [(0, 1)], [(0, 3), (1, 2)]):
            for thing in WRONG_SAYINGS + [Like(), [], [(0, 0)], [0, None]]:
                self.assertIs(may_lead(table, thing), False, thing)

    def test_refused(self):
        for thing in ((0, 0), None, (1, 0)):
            def led(table):
                return may_lead(table, thing)
            check_refusals(self, led, [[(0, 0)]], [(WRONG_TABLES + FALLING, NoTable)])
