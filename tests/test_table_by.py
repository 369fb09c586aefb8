"""Point 16: the table that has just these never-comes and folds."""

import itertools
import unittest

from boastrow.errors import NoStretches, TooMany
from boastrow.tables import folds, is_rows, never_comes, table_by, table_of
from tests.helper import (
    BIG, GREATEST, as_stretches, check_refusals, long_row, long_table, many_in, some_rows, some_tables,
)

WRONG_STRETCHES = [
    None, 0, True, "", "ab", {}, (), ((0, 1),), (0, 1), [0, 1], [None], [[0, 1]], [()], [(0,)], [(0, 1, 2)], [(2, 1)],
    [(-1, 2)], [(-2, -1)], [(True, 2)], [(0, True)], [(0, "1")], [(0, 1.0)], [(None, 1)], [(0, 1), (2, 3)],
    [(0, 1), (1, 3)], [(0, 1), (0, 1)], [(5, 6), (0, 1)], [(0, None), (5, 6)], [(0, 1), (3, 4), (5, 6)],
    [(0, 1), (3, 2)], object(),
]
ENDLESS = [[(0, None)], [(0, 1), (3, None)], [(BIG, None)]]


def totals_slowly(never, folded, reach):
    """The totals of the companies up to one, as the point has them."""
    free = [number for number in range(reach + len(never) + 1) if number not in never]
    return [free[len([c for c in range(company) if c not in folded])] for company in range(reach + 1)]


class TableBy(unittest.TestCase):
    def test_by_hand(self):
        self.assertEqual(table_by([], []), ("table", [(0, 0)]))
        self.assertEqual(table_by([(0, 2)], []), ("table", [(0, 3)]))
        self.assertEqual(table_by([(2, 2)], []), ("table", [(0, 0), (2, 1)]))
        self.assertEqual(table_by([(0, 1), (4, 6)], [(1, 1), (8, 9)])[1], [(0, 2), (2, 1), (3, 4), (9, 3), (10, 2)])
        self.assertEqual(table_by([], [(0, 0)]), ("less", 1))
        self.assertEqual(table_by([(0, 0)], [(3, 4)]), ("less", 5))
        self.assertEqual(table_by([(9, 9)], [(3, 3)]), ("less", 4))

    def test_each_few(self):
        kinds = set()
        numbers = range(6)
        some = [list(chosen) for many in range(4) for chosen in itertools.combinations(numbers, many)]
        for never, folded in itertools.product(some, some):
            told = table_by(as_stretches(never), as_stretches(folded))
            totals = totals_slowly(never, folded, 14)
            less = [c for c in range(15) if totals[c] < c]
            kinds.add(told[0])
            self.assertIsInstance(told, tuple)
            if less:
                self.assertEqual(told, ("less", less[0]))
            else:
                self.assertEqual(told[0], "table")
                self.assertTrue(is_rows(told[1]))
                self.assertEqual([c + many_in(told[1], c) for c in range(15)], totals)
        self.assertEqual(kinds, {"table", "less"})

    def test_the_table_again(self):
        tables = some_tables(131, 150, 14, 4) + [table_of(row) for row in some_rows(132, 80, 8, 9)]
        tables += [long_table(400), long_table(400, BIG, 10 ** 26)]
        tables += [table_of(long_row(133, 300)), table_of(long_row(134, GREATEST))]
        for table in tables:
            self.assertEqual(table_by(never_comes(table), folds(table)), ("table", table))

    def test_what_it_has_is_what_was_handed(self):
        for many in range(1, 60):
            never = as_stretches([3 * at for at in range(many)])
            folded = as_stretches([7 * at + 5 for at in range(many)])
            kind, table = table_by(never, folded)
            self.assertEqual((kind, never_comes(table), folds(table)), ("table", never, folded))

    def test_thirty_figures(self):
        self.assertEqual(table_by([(BIG, GREATEST)], []), ("table", [(0, 0), (BIG, GREATEST - BIG + 1)]))
        self.assertEqual(table_by([], [(BIG, BIG)]), ("less", BIG + 1))
        self.assertEqual(table_by([(0, GREATEST)], [(BIG, BIG + 1)])[1][1:], [(BIG + 1, GREATEST), (BIG + 2, GREATEST - 1)])

    def test_two_hundred_stretches(self):
        never = [(BIG + 10 ** 20 * at, BIG + 10 ** 20 * at + 1) for at in range(200)]
        folded = [(BIG + 10 ** 20 * at, BIG + 10 ** 20 * at) for at in range(200)]
        kind, table = table_by(never, folded)
        self.assertEqual((kind, never_comes(table), folds(table)), ("table", never, folded))
        self.assertEqual(len(table), 401)

    def test_too_many_folds(self):
        self.assertEqual(table_by([(0, 299)], [(0, 299)])[0], "table")
        self.assertEqual(table_by([], [(0, 299)]), ("less", 1))
        for folded, many in (
            ([(0, 300)], 301), ([(0, 299), (301, 301)], 301), ([(0, 99), (200, 299), (400, 500)], 301),
            ([(0, GREATEST)], GREATEST + 1), ([(5, BIG), (GREATEST, GREATEST)], BIG - 3),
        ):
            for never in ([], [(0, 299)], [(0, GREATEST)]):
                with self.assertRaises(TooMany) as caught:
                    table_by(never, folded)
                self.assertEqual(caught.exception.many, many)

    def test_many_never_comes_are_none_too_many(self):
        self.assertEqual(table_by([(0, GREATEST)], []), ("table", [(0, GREATEST + 1)]))

    def test_refused(self):
        wrong = WRONG_STRETCHES + ENDLESS
        faults = [(wrong, NoStretches), (wrong + [], NoStretches)]
        check_refusals(self, table_by, [[(0, 0)], [(0, 0)]], faults)

    def test_what_is_no_stretches_goes_ahead_of_too_many(self):
        for wrong in WRONG_STRETCHES + ENDLESS:
            with self.assertRaises(NoStretches):
                table_by(wrong, [(0, 300)])
            with self.assertRaises(NoStretches):
                table_by([], [(0, 300), wrong])
