"""Points 37, 41 and 43: the fewest people who act as a row does, and who may go."""

import unittest

from boastrow.errors import NoNumber, NoRow
from boastrow.fewest import fewest, may_go, within
from boastrow.tables import never_comes, table_of
from boastrow.wished import how_few, row_of
from tests.helper import (
    BIG, GREATEST, WRONG_NUMBERS, WRONG_ROWS, as_stretches, check_refusals, check_stretches, long_row, none_behind,
    numbers_in, rows_to, some_rows,
)

ROW = [(1, 2), (0, 0), (3, None), (2, 5)]


def rows_of_all_sizes():
    """Rows of none to two hundred people, of small numbers and of thirty figures."""
    rows = some_rows(371, 100, 9, 9) + some_rows(372, 20, 9, GREATEST) + [[], [(0, None)] * 200, [(9, 9)] * 200]
    return rows + [long_row(373, 150), long_row(374, 900), long_row(375, GREATEST)]


class Fewest(unittest.TestCase):
    def test_by_hand(self):
        self.assertEqual(fewest([]), [])
        self.assertEqual(fewest(()), [])
        self.assertEqual(fewest([(5, 5), (0, 0), (9, 11)]), [(0, 0), (5, 5), (9, 11)])
        self.assertEqual(fewest([(1, 1), (0, None)]), [(0, 1), (0, None)])
        self.assertEqual(fewest([(0, 1), (1, 1)]), [(0, 1)])

    def test_against_all_rows_of_so_few_people(self):
        found = {}
        for people in range(4):
            for row in rows_to(people, 6):
                found.setdefault(str(table_of(row)), row)
        for people in range(4):
            for row in rows_to(people, 2):
                self.assertEqual(fewest(row), found[str(table_of(row))])

    def test_as_many_as_never_come_and_none_more_than_there_were(self):
        for row in rows_of_all_sizes():
            told = fewest(row)
            self.assertIsInstance(told, list)
            self.assertEqual(fewest(tuple(row)), told)
            self.assertEqual(table_of(told), table_of(row))
            self.assertEqual(len(told), how_few(table_of(row)))
            self.assertLessEqual(len(told), len(row))
            self.assertEqual(fewest(told), told)
            self.assertEqual(row_of(table_of(row)), ("row", told))
            if len(told) == len(row):
                self.assertLessEqual(none_behind(told), none_behind(row))

    def test_more_than_three_hundred_people(self):
        self.assertEqual(fewest([(BIG, None)] * 301), [(BIG, None)] * 301)

    def test_refused(self):
        check_refusals(self, fewest, [ROW], [(WRONG_ROWS, NoRow)])


class Within(unittest.TestCase):
    def test_each_number_of_people(self):
        kinds = set()
        for row in rows_of_all_sizes():
            few = how_few(table_of(row))
            never = numbers_in(never_comes(table_of(row)))
            for people in {0, 1, few // 2, few - 1, few, few + 1, few + 100, BIG} - {-1}:
                told = within(row, people)
                kinds.add(told[0])
                self.assertEqual(within(tuple(row), people), told)
                if people >= few:
                    self.assertEqual(told, ("row", fewest(row)))
                else:
                    self.assertEqual(told, ("totals", as_stretches(never[:people + 1])))
                    check_stretches(self, told[1])
                    self.assertEqual(len(numbers_in(told[1])), people + 1)
        self.assertEqual(kinds, {"row", "totals"})

    def test_by_hand(self):
        row = [(0, None), (0, None), (5, None), (5, None), (5, None)]
        self.assertEqual(within(row, 0), ("totals", [(0, 0)]))
        self.assertEqual(within(row, 3), ("totals", [(0, 1), (7, 8)]))
        self.assertEqual(within(row, 4), ("totals", [(0, 1), (7, 9)]))
        self.assertEqual(within(row, 5), ("row", row))
        self.assertEqual(within([], 0), ("row", []))
        self.assertEqual(within([(4, None)] * 3, 3), ("row", [(4, None)] * 3))
        self.assertEqual(within([(4, None)] * 3, 2), ("totals", [(4, 6)]))
        self.assertEqual(within([(4, None)] * 3, 0), ("totals", [(4, 4)]))

    def test_refused(self):
        check_refusals(self, within, [ROW, 3], [(WRONG_ROWS, NoRow), (WRONG_NUMBERS, NoNumber)])


class MayGo(unittest.TestCase):
    def check(self, row):
        table = table_of(row)
        wanted = [at for at in range(len(row)) if table_of(row[:at] + row[at + 1:]) == table]
        for given in (row, tuple(row)):
            self.assertEqual(may_go(given), wanted, row)
        return len(wanted)

    def test_nobody(self):
        self.assertEqual((may_go([]), may_go(())), ([], []))

    def test_by_hand(self):
        self.assertEqual(may_go([(0, 0), (5, 5), (0, 0)]), [0, 2])
        self.assertEqual(may_go([(0, 0), (0, 0)]), [0, 1])
        self.assertEqual(may_go([(0, 0), (0, None)]), [0])
        self.assertEqual(may_go([(0, 1), (1, 1)]), [1])
        self.assertEqual(may_go([(0, None), (3, 4)]), [])

    def test_each_small_row(self):
        for people in range(4):
            for row in rows_to(people, 2):
                self.check(row)

    def test_against_the_tables_without_each(self):
        some = 0
        for row in some_rows(376, 400, 12, 7) + some_rows(377, 200, 9, 20) + some_rows(378, 30, 12, GREATEST):
            some += 0 < self.check(row) < len(row)
        self.assertGreater(some, 50)

    def test_two_hundred_people(self):
        self.assertEqual(self.check([(9, 9)] * 200), 200)
        self.assertEqual(self.check([(0, None)] * 200), 0)
        for row in (long_row(379, 60), long_row(380, 150), long_row(381, GREATEST), [(BIG, GREATEST)] * 200):
            self.check(row)

    def test_refused(self):
        check_refusals(self, may_go, [ROW], [(WRONG_ROWS, NoRow)])
