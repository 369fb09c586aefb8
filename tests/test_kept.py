"""Point 2: what is told is new and the asker's own, what is handed in stays as it was."""

import unittest

from boastrow.rows import changed, comes, heard, parted, put_in, taken, total, words
from boastrow.tables import folds, greater_of, joined, lesser_of, never_comes, table_by, table_of, total_by
from boastrow.walks import hindmost, swayed, true_between
from tests.helper import check_own

ROW = [(1, 2), (0, 0), (3, None), (2, 5)]
OTHER = [(0, 2), (0, 0), (2, None), (0, 3), (1, 1)]
TABLE = [(0, 1), (3, 9), (4, 8)]
LESS = [(0, 0), (2, 1), (6, 0)]


class Kept(unittest.TestCase):
    def test_rows(self):
        for call in (words, heard, total, table_of):
            company = [] if call is table_of else [4]
            check_own(self, call, [ROW, *company], [OTHER, *company])
        check_own(self, comes, [ROW, 4, 1], [OTHER, 4, 1])
        check_own(self, put_in, [ROW, 1, (0, 1)], [OTHER, 1, (0, 1)])
        check_own(self, taken, [ROW, 1], [OTHER, 1])
        check_own(self, changed, [ROW, 1, (0, 1)], [OTHER, 1, (0, 1)])
        check_own(self, parted, [ROW, 2], [OTHER, 2])

    def test_parted_at_the_ends(self):
        check_own(self, parted, [ROW, 0], [OTHER, 0])
        check_own(self, parted, [ROW, 4], [OTHER, 4])

    def test_walks(self):
        check_own(self, swayed, [ROW, 2, 3], [OTHER, 2, 3])
        check_own(self, true_between, [ROW, 4, 1], [OTHER, 4, 1])
        check_own(self, hindmost, [ROW, 4, 1], [OTHER, 4, 1])

    def test_tables(self):
        check_own(self, total_by, [TABLE, 3], [LESS, 3])
        check_own(self, never_comes, [TABLE], [LESS])
        check_own(self, folds, [TABLE], [LESS])
        check_own(self, table_by, [[(0, 3)], [(1, 2)]], [[(2, 4)], [(5, 5)]])

    def test_two_tables(self):
        for call in (joined, greater_of, lesser_of):
            check_own(self, call, [TABLE, LESS], [LESS + [(9, 12)], TABLE])
            level = [(0, 3)] if call is lesser_of else [(0, 0)]
            check_own(self, call, [TABLE, level], [LESS, level])
            check_own(self, call, [level, TABLE], [level, LESS])

    def test_one_thing_handed_in_twice(self):
        table = list(TABLE)
        for call in (joined, greater_of, lesser_of):
            told = call(table, table)
            self.assertIsNot(told, table)
            told.append("spoiled")
            self.assertEqual(table, TABLE)
