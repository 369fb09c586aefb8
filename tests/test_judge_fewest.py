"""Point 42: the judges of papers that nobody has a table, and that so few people do not."""

import unittest

from boastrow.errors import NoNumber, NoTable
from boastrow.fewest import within
from boastrow.judge_fewest import falls_holds, totals_hold
from boastrow.tables import never_comes, table_of
from boastrow.wished import row_of
from tests.helper import (
    BIG, FALLING, GREATEST, WRONG_NUMBERS, WRONG_TABLES, Like, check_refusals, long_row, long_table, many_in,
    numbers_in, some_rows, some_tables, wrong_papers,
)

# The totals of this one are 2, 3, 3, 7, 8, .. 12, 12, 12, 13.
PLACED = [(0, 2), (2, 1), (3, 4), (9, 3), (10, 2)]
WRONG_STRETCHES = [
    None, 0, True, "", "ab", {}, set(), (), ((0, 1),), (0, 1), [0, 1], [None], [[0, 1]], [()], [(0,)], [(0, 1, 2)],
    [(1, 0)], [(-1, 1)], [(True, 1)], [(0, True)], [("0", 1)], [(0, 0), (1, 1)], [(1, 1), (0, 0)], [(0, 1), (1, 1)],
    [(0, 1), (0, 1)], [(0, None)], [(0, 1), (5, None)], [(0, None), (5, 6)], [(0, 0), 1], Like(), object(),
]


class Falls(unittest.TestCase):
    def test_each_number(self):
        holds = 0
        tables = some_tables(421, 60, 8, 3) + FALLING[:3] + [[(0, 0), (3, 9), (5, 7), (6, 6), (9, 1)]]
        for table in tables:
            for c in range(40):
                wanted = many_in(table, c) - many_in(table, c + 1) > 1
                self.assertIs(falls_holds(table, ("falls", c)), wanted)
                holds += wanted
        self.assertEqual(holds, 5)

    def test_told_papers_hold(self):
        for table in FALLING:
            self.assertIs(falls_holds(table, row_of(table)), True)

    def test_far_out(self):
        table = long_table(399, BIG, 10 ** 26) + [(GREATEST, 0)]
        for c in (0, BIG, GREATEST - 2, GREATEST - 1, GREATEST, GREATEST + 1):
            self.assertIs(falls_holds(table, ("falls", c)), c == GREATEST - 1)

    def test_other_things(self):
        for table in (FALLING[0], [(0, 0)]):
            for paper in wrong_papers("falls"):
                self.assertIs(falls_holds(table, paper), False, paper)
        self.assertIs(falls_holds(FALLING[0], ("falls", 0)), True)

    def test_refused_is_only_what_is_no_table(self):
        for paper in (("falls", 0), None):
            def judged(table):
                return falls_holds(table, paper)
            check_refusals(self, judged, [FALLING[0]], [(WRONG_TABLES, NoTable)])


class Totals(unittest.TestCase):
    def test_by_hand(self):
        never = [(0, 1), (4, 6)]
        for people in range(8):
            self.assertIs(totals_hold(PLACED, people, ("totals", never)), people < 5)
            self.assertIs(totals_hold(PLACED, people, ("totals", [(5, 6)])), people < 2)
            self.assertIs(totals_hold(PLACED, people, ("totals", [(0, 0), (4, 4), (6, 6)])), people < 3)
            self.assertIs(totals_hold(PLACED, people, ("totals", [])), False)
        for wrong in ([(0, 2)], [(4, 7)], [(3, 6)], [(0, 6)], [(0, 1), (3, 3)], [(0, 1), (4, 6), (20, 20)], [(12, 12)]):
            self.assertIs(totals_hold(PLACED, 0, ("totals", wrong)), False, wrong)

    def test_withins_papers(self):
        papers = 0
        for row in some_rows(422, 60, 8, 8) + some_rows(423, 10, 8, GREATEST) + [long_row(424, 150)]:
            table = table_of(row)
            for people in range(0, len(row) + 2, 1 + len(row) // 20):
                paper = within(row, people)
                self.assertIs(totals_hold(table, people, paper), paper[0] == "totals")
                if paper[0] == "totals":
                    papers += 1
                    self.check_changed(table, people, paper[1])
        self.assertTrue(papers)

    def check_changed(self, table, people, stretches):
        first, last = stretches[-1]
        self.assertIs(totals_hold(table, people + 1, ("totals", stretches)), False)
        self.assertIs(totals_hold(table, max(0, people - 1), ("totals", stretches)), True)
        # One fewer is too few; one more is none that never comes, or does as well.
        fewer = stretches[:-1] + ([(first, last - 1)] if first < last else [])
        self.assertIs(totals_hold(table, people, ("totals", fewer)), False)
        never = numbers_in(never_comes(table))
        more = stretches[:-1] + [(first, last + 1)]
        self.assertIs(totals_hold(table, people, ("totals", more)), last + 1 in never)
        self.assertIs(totals_hold(table, people, ("totals", stretches[:-1] + [(first, None)])), False)
        self.assertIs(totals_hold(table, people, ("totals", stretches + [(last + 2, None)])), False)

    def test_each_total_of_small_tables(self):
        for table in some_tables(425, 60, 7, 3):
            never = numbers_in(never_comes(table))
            for first in range(25):
                for last in range(first, 25):
                    wanted = all(total in never for total in range(first, last + 1))
                    self.assertIs(totals_hold(table, last - first, ("totals", [(first, last)])), wanted)
                    self.assertIs(totals_hold(table, last - first + 1, ("totals", [(first, last)])), False)

    def test_of_any_size(self):
        table = [(0, 0), (BIG, GREATEST)]
        for people in (0, 5, GREATEST - 1, GREATEST):
            wanted = people < GREATEST
            self.assertIs(totals_hold(table, people, ("totals", [(BIG, BIG + GREATEST - 1)])), wanted)
        self.assertIs(totals_hold(table, 0, ("totals", [(BIG, BIG + GREATEST)])), False)
        self.assertIs(totals_hold(table, 0, ("totals", [(BIG - 1, BIG + 1)])), False)
        table = long_table(400, BIG, 10 ** 26)
        self.assertIs(totals_hold(table, 399, ("totals", never_comes(table))), True)
        self.assertIs(totals_hold(table, 400, ("totals", never_comes(table))), False)

    def test_other_things(self):
        papers = [("totals", wrong) for wrong in WRONG_STRETCHES + WRONG_NUMBERS]
        papers += wrong_papers("totals") + [["totals", [(0, 0)]], ("totals", [(0, 0)], 0), ("Totals", [(0, 0)])]
        papers += [("falls", [(0, 0)]), (Like(), [(0, 0)]), (b"totals", [(0, 0)]), (None, [(0, 0)])]
        for paper in papers:
            self.assertIs(totals_hold([(0, 9)], 0, paper), False, paper)
        self.assertIs(totals_hold([(0, 9)], 0, ("totals", [(0, 0)])), True)

    def test_refused(self):
        for paper in (("totals", [(0, 0)]), None):
            def judged(table, people):
                return totals_hold(table, people, paper)
            tables = (WRONG_TABLES + FALLING, NoTable)
            check_refusals(self, judged, [[(0, 9)], 0], [tables, (WRONG_NUMBERS, NoNumber)])
