"""Points 49, 50, 51, 55 and 62, with 57 and 58: who steps in, and what was left of a row."""

import itertools
import unittest

from boastrow.between import needed, table_between, window
from boastrow.errors import NoNumber, NoPlace, NoRow, NoTable, TooMany
from boastrow.rows import is_row
from boastrow.steps import in_front, left_front, spare_behind, spare_front, step_behind, step_between
from boastrow.tables import joined, table_of
from boastrow.wished import row_of
from tests.helper import (
    BIG, FALLING, GREATEST, WRONG_NUMBERS, WRONG_ROWS, WRONG_TABLES, check_refusals, long_row, long_table, many_in,
    rows_to, some_rows, some_tables,
)
from tests.test_between import nearly, parts, sums, wild

NOBODY = [(0, 0)]
ROW = [(1, 2), (0, 0), (3, None), (2, 5)]


def paper_slowly(front, back, wished):
    """The first paper, company by company, or None."""
    front, back, wished = [sums(table, 120) for table in (front, back, wished)]
    companies = range(50)
    for word, found in (
        ("falls", [c for c in companies if wished[c + 1] < wished[c]]),
        ("less", [c for c in companies if wished[c] < front[back[c]]]),
        ("folded", [c for c in companies if back[c] == back[c + 1] and wished[c] != wished[c + 1]]),
        ("never", sorted(wished[c] for c in companies if wished[c] not in front)),
    ):
        if found:
            return (word, found[0])
    return None


def few_tables():
    """Pairs of how few people, none to two, and a table that so many have and no fewer."""
    found = []
    for people in range(3):
        found += [(people, table) for table in [table_of(row) for row in rows_to(people, 6)]]
    seen = {}
    for people, table in found:
        seen.setdefault(str(table), (people, table))
    return list(seen.values())


class Between(unittest.TestCase):
    def test_by_hand(self):
        self.assertEqual(step_between(NOBODY, NOBODY, NOBODY), ("row", []))
        self.assertEqual(step_between(NOBODY, NOBODY, [(0, 1), (1, 0)]), ("row", [(0, 0)]))
        self.assertEqual(step_between([(0, 2)], [(0, 3)], [(0, 6)]), ("row", [(3, None)]))
        self.assertEqual(in_front([(0, 1)], [(0, 3)]), ("row", [(1, None), (1, None)]))
        self.assertEqual(step_behind([(0, 1)], [(0, 3)]), ("row", [(0, None), (0, None)]))
        self.assertEqual(step_behind([(0, 0), (2, 1)], [(0, 3)]), ("row", [(0, None), (0, None)]))
        self.assertEqual(step_behind([(0, 0), (2, 2)], [(0, 3)]), ("never", 3))

    def check(self, front, back, wished):
        """The paper's word, or "row"; what is told is as it must be."""
        told = step_between(front, back, wished)
        paper = paper_slowly(front, back, wished)
        if paper is not None:
            self.assertEqual(told, paper)
            return paper[0]
        kind, row = told
        self.assertTrue(kind == "row" and isinstance(row, list) and is_row(row))
        self.assertEqual(joined(front, joined(table_of(row), back)), wished)
        self.assertEqual(told, row_of(table_between(front, back, wished)))
        self.assertEqual(len(row), needed(front, back, wished))
        return kind

    def test_of_parts_put_together(self):
        for front, _, back, wished in parts(621, 150) + parts(622, 50, 8, 9):
            self.assertEqual(self.check(front, back, wished), "row")
            self.assertEqual(in_front(back, wished), step_between(NOBODY, back, wished))
            self.assertEqual(step_behind(front, wished), step_between(front, NOBODY, wished))

    def test_each_kind_of_paper(self):
        tables = wild(623, 500, 3, 2) + wild(624, 200, 5, 3) + nearly(625, 400)
        seen = [self.check(*three) for three in tables]
        for kind in ("row", "falls", "less", "folded", "never"):
            self.assertGreater(seen.count(kind), 10, kind)

    def test_papers_by_hand(self):
        self.assertEqual(step_between([(0, 1)], [(0, 1)], [(0, 1), (4, 5), (7, 0)]), ("falls", 6))
        self.assertEqual(step_between([(0, 1)], [(0, 1)], [(0, 1), (4, 5), (7, 4)]), ("less", 0))
        self.assertEqual(step_between([(0, 1)], [(0, 1)], [(0, 3), (4, 2), (5, 1), (6, 2)]), ("less", 5))
        self.assertEqual(step_between(NOBODY, [(0, 2), (4, 1), (5, 0)], [(0, 3), (4, 2)]), ("folded", 4))
        self.assertEqual(step_between([(0, 0), (5, 3)], NOBODY, [(0, 4), (3, 5)]), ("never", 5))
        self.assertEqual(step_between([(0, 0), (5, 3)], NOBODY, [(0, 8), (3, 9)]), ("row", table_rows([(0, 5), (3, 6)])))
        self.assertEqual(step_between([(0, 2)], NOBODY, [(0, 0), (4, 8)]), ("less", 0))

    def test_no_fewer_do(self):
        tables = few_tables()
        kinds = {"row": 0, "more": 0, "paper": 0}
        rows = [(front, back, wished) for front, _, back, wished in parts(626, 25, 2, 3)]
        for front, back, wished in rows + wild(627, 25, 2, 2) + nearly(628, 25, 2, 2):
            good = [few for few, table in tables if joined(front, joined(table, back)) == wished]
            told = step_between(front, back, wished)
            if told[0] != "row":
                kinds["paper"] += 1
                self.assertEqual(good, [])
            elif len(told[1]) > 2:
                kinds["more"] += 1
                self.assertEqual(good, [])
            else:
                kinds["row"] += 1
                self.assertEqual(len(told[1]), min(good))
        self.assertTrue(all(kinds.values()), kinds)

    def test_of_papers_the_least(self):
        wished = [(c, 3 - c % 2 * 2) for c in range(400)]
        self.assertEqual(step_between(NOBODY, NOBODY, wished), ("falls", 0))
        wished = [(0, 2)] + [(c, c % 2) for c in range(1, 400)]
        back = [(0, 0), (200, 2)]
        self.assertEqual(step_between(NOBODY, back, wished), ("less", 200))
        back = long_table(400, BIG, 10 ** 26)
        self.assertEqual(step_between(NOBODY, back, [(0, 500)]), ("folded", back[2][0] - 1))
        self.assertEqual(step_between(back, NOBODY, [(0, 500)]), ("never", BIG + 10 ** 26))

    def test_far_out(self):
        for seed in (629, 630):
            rows = [long_row(seed + 10 * at, GREATEST, people) for at, people in enumerate((60, 80, 60))]
            front, _, back = [table_of(row) for row in rows]
            wished = table_of(rows[0] + rows[1] + rows[2])
            kind, row = step_between(front, back, wished)
            self.assertEqual((kind, joined(front, joined(table_of(row), back))), ("row", wished))
            self.assertLessEqual(len(row), 80)

    def test_too_many(self):
        for call, args, many in (
            (step_between, (NOBODY, NOBODY, [(0, 301)]), 301), (in_front, ([(0, 3)], [(0, BIG)]), BIG - 3),
            (step_behind, ([(0, 3)], [(0, BIG)]), BIG - 3), (table_between, ([(0, 1)], NOBODY, [(0, 302)]), 301),
        ):
            with self.assertRaises(TooMany) as caught:
                call(*args)
            self.assertEqual(caught.exception.many, many)
        self.assertEqual(in_front([(0, 3)], [(0, 303)]), ("row", [(3, None)] * 300))
        self.assertEqual(step_behind([(0, 3)], [(0, 303)]), ("row", [(0, None)] * 300))

    def test_a_paper_goes_ahead_of_too_many(self):
        self.assertEqual(in_front([(0, 5)], [(0, BIG), (4, 1)]), ("falls", 3))
        self.assertEqual(in_front([(0, 5)], [(0, 4), (4, BIG)]), ("less", 0))
        self.assertEqual(in_front([(0, 5), (2, 4)], [(0, BIG)]), ("folded", 1))
        self.assertEqual(step_behind([(0, 0), (9, 2)], [(0, 9), (1, BIG)]), ("never", 9))

    def test_refused(self):
        rows, tables = (WRONG_TABLES + FALLING, NoTable), (WRONG_TABLES, NoTable)
        check_refusals(self, step_between, [NOBODY, [(0, 1)], FALLING[0]], [rows, rows, tables])
        for call in (in_front, step_behind):
            check_refusals(self, call, [[(0, 1)], FALLING[0]], [rows, tables])


def table_rows(table):
    """The first fewest row with the table."""
    return row_of(table)[1]


class OneMadeOfAnother(unittest.TestCase):
    def test_whoever_steps_in_front_makes_the_same_of_each_total(self):
        for now, between, _, _ in parts(571, 100):
            wished = joined(between, now)
            made = sums(table_of(in_front(now, wished)[1]), 90)
            for company, total in enumerate(sums(now, 40)):
                self.assertEqual(made[total], company + many_in(wished, company))

    def test_whoever_steps_in_behind_makes_a_number_of_the_window(self):
        for now, between, _, _ in parts(572, 100):
            wished = joined(now, between)
            made = sums(table_of(step_behind(now, wished)[1]), 40)
            self.assertEqual(made, sorted(made))
            for company in range(40):
                least, greatest = window(now, NOBODY, wished, company)
                self.assertTrue(least <= made[company] <= greatest and made[company] >= company)

    def test_by_no_more_people_than_both_together(self):
        for first, one, other, _ in parts(581, 150) + parts(582, 40, 8, 9):
            second = joined(one, first)
            third = joined(other, second)
            both = needed(NOBODY, first, second) + needed(NOBODY, second, third)
            self.assertLessEqual(needed(NOBODY, first, third), both)
            second = joined(first, one)
            third = joined(second, other)
            both = needed(first, NOBODY, second) + needed(second, NOBODY, third)
            self.assertLessEqual(needed(first, NOBODY, third), both)

    def test_made_into_one_another_two_tables_are_the_same(self):
        tables = some_tables(583, 60, 4, 2)
        for call in (in_front, step_behind):
            for one, other in itertools.product(tables, tables):
                if call(one, other)[0] == "row" and call(other, one)[0] == "row":
                    self.assertEqual(one, other)


class Left(unittest.TestCase):
    def test_each_number_of_people(self):
        spare = [0, 0]
        for row in some_rows(631, 120, 7, 5) + some_rows(632, 20, 9, GREATEST):
            table = table_of(row)
            for many in range(len(row) + 1):
                for given in (row, tuple(row)):
                    left = left_front(given, many)
                    self.assertEqual(left, table_of(row[many:]))
                    kind, told = in_front(left, table)
                    self.assertEqual((kind, joined(table_of(told), left)), ("row", table))
                    fewer = [spare_front(given, many), spare_behind(given, many)]
                    self.assertEqual(fewer[0], many - len(told))
                    behind = table_of(row[:len(row) - many])
                    self.assertEqual(fewer[1], many - needed(behind, NOBODY, table))
                    self.assertTrue(min(fewer) >= 0)
                    spare = [one + (other > 0) for one, other in zip(spare, fewer)]
        self.assertTrue(min(spare) > 50)

    def test_by_hand(self):
        row = [(5, 5), (5, 6), (0, None), (5, 5), (0, 0)]
        self.assertEqual(left_front([], 0), NOBODY)
        self.assertEqual(left_front((), 0), NOBODY)
        self.assertEqual((left_front(row, 5), left_front(row, 0)), (NOBODY, table_of(row)))
        self.assertEqual((spare_front([(9, 9), (0, 0), (9, 9), (0, None)], 3)), 2)
        self.assertEqual((spare_front([(0, None)] * 4, 3), spare_behind([(0, None)] * 4, 3)), (0, 0))
        self.assertEqual((spare_front([], 0), spare_behind([], 0)), (0, 0))
        self.assertEqual(spare_behind([(0, 9), (0, 0), (0, 0)], 2), 1)

    def test_two_hundred_people(self):
        for row in (long_row(633, 150), long_row(634, GREATEST), [(7, 7)] * 200, [(BIG, None)] * 200):
            for many in (0, 1, 77, 199, 200):
                self.assertEqual(left_front(row, many), table_of(row[many:]))
                few = needed(NOBODY, table_of(row[many:]), table_of(row))
                self.assertEqual(spare_front(row, many), many - few)
                few = needed(table_of(row[:200 - many]), NOBODY, table_of(row))
                self.assertEqual(spare_behind(row, many), many - few)

    def test_refused(self):
        for call in (left_front, spare_front, spare_behind):
            check_refusals(self, call, [ROW, 4], [(WRONG_ROWS, NoRow), (WRONG_NUMBERS, NoNumber)])
            for many in (5, 6, BIG):
                with self.assertRaises(NoPlace):
                    call(ROW, many)
            with self.assertRaises(NoPlace):
                call([], 1)
