"""Point 18: tables that are alike, that are apart, and the judge of this."""

import unittest

from boastrow.apart import alike, least_apart, least_less
from boastrow.errors import NoTable
from boastrow.judge_apart import apart_holds
from boastrow.tables import folds, never_comes, table_of
from tests.helper import (
    BIG, FALLING, GREATEST, WRONG_NUMBERS, WRONG_TABLES, Like, check_refusals, long_row, long_table, many_in, near,
    some_rows, some_tables,
)

WRONG_PAPERS = [
    None, 0, True, "", "apart", {}, set(), [], (), ("apart",), ("apart", 0, 0), ["apart", 0], ("less", 0), ("Apart", 0),
    (0, "apart"), (0, 0), (None, 0), (("apart",), 0), ({}, 0), ([], 0), (b"apart", 0), (Like(), 0), Like(),
] + [("apart", wrong) for wrong in WRONG_NUMBERS]


def pairs():
    """Tables two by two: some the same, some that part early, late, far out."""
    tables = some_tables(141, 80, 6, 3) + [table_of(row) for row in some_rows(142, 80, 3, 3)]
    out = list(zip(tables, tables[1:])) + [(table, list(table)) for table in tables[:30]]
    for table in tables[:40]:
        c, many = table[-1]
        out += [(table, table + [(c + 50, many + 1)]), (table, table[:-1] + [(c, many + 9)])]
    return out


class Apart(unittest.TestCase):
    def test_by_hand(self):
        one, other = [(0, 1), (3, 0)], [(0, 1), (2, 2), (4, 1), (5, 0)]
        self.assertIs(alike(one, other), False)
        self.assertEqual((least_apart(one, other), least_apart(other, one)), (2, 2))
        self.assertEqual((least_less(one, other), least_less(other, one)), (2, None))
        self.assertIs(alike(one, list(one)), True)
        self.assertIsNone(least_apart(one, list(one)))
        self.assertIsNone(least_less(one, list(one)))

    def test_either_way_about(self):
        one, other = [(0, 0), (2, 3)], [(0, 0), (1, 1), (7, 9)]
        self.assertEqual((least_less(one, other), least_less(other, one)), (1, 2))

    def test_against_each_company(self):
        same = early = late = 0
        for one, other in pairs():
            reach = max(one[-1][0], other[-1][0]) + 2
            unlike = [c for c in range(reach) if many_in(one, c) != many_in(other, c)]
            less = [c for c in range(reach) if many_in(one, c) < many_in(other, c)]
            self.assertIs(alike(one, other), not unlike)
            self.assertEqual(least_apart(one, other), unlike[0] if unlike else None)
            self.assertEqual(least_less(one, other), less[0] if less else None)
            for c in range(reach):
                self.assertIs(apart_holds(one, other, ("apart", c)), c in unlike)
            same += not unlike
            early += unlike[:1] == [0]
            late += bool(unlike) and unlike[0] > 20
        self.assertTrue(same and early and late)

    def test_just_where_their_never_comes_and_folds_are(self):
        for one, other in pairs():
            same = (never_comes(one), folds(one)) == (never_comes(other), folds(other))
            self.assertIs(alike(one, other), same)

    def test_rows_of_two_hundred(self):
        row = long_row(143, GREATEST)
        self.assertTrue(alike(table_of(row), table_of(tuple(row))))
        self.assertIsNone(least_apart(table_of(row), table_of(row)))
        one, other = table_of(row), table_of(row[:-1] + [(GREATEST, GREATEST)])
        unlike = [c for c in near([c for c, _ in one + other], 0) if many_in(one, c) != many_in(other, c)]
        self.assertEqual(least_apart(one, other), unlike[0])

    def test_far_out(self):
        one = long_table(400, BIG, 10 ** 26)
        other = one[:-1] + [(one[-1][0], one[-1][1] + 5)]
        self.assertEqual((least_apart(one, other), least_less(one, other)), (one[-1][0], one[-1][0]))
        self.assertIsNone(least_less(other, one))
        for c in near([one[-1][0], GREATEST], 3):
            self.assertIs(apart_holds(one, other, ("apart", c)), c >= one[-1][0])
        self.assertEqual(least_apart([(0, 0)], [(0, 0), (GREATEST, 1)]), GREATEST)

    def test_papers_of_all_sorts(self):
        for paper in WRONG_PAPERS:
            self.assertIs(apart_holds([(0, 0)], [(0, 1)], paper), False, paper)
        self.assertIs(apart_holds([(0, 0)], [(0, 1)], ("apart", 0)), True)

    def test_refused(self):
        tables = (WRONG_TABLES + FALLING, NoTable)
        for call in (alike, least_apart, least_less):
            check_refusals(self, call, [[(0, 0)], [(0, 1)]], [tables, tables])
        for paper in (("apart", 0), None):
            def judged(one, other):
                return apart_holds(one, other, paper)
            check_refusals(self, judged, [[(0, 0)], [(0, 1)]], [tables, tables])
