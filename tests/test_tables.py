"""Points 13, 14, 15, 17 and 19, and 4 as far as tables go."""

import itertools
import unittest

from boastrow.errors import NoNumber, NoRow, NoTable
from boastrow.rows import total
from boastrow.tables import (
    folds, greater_of, is_rows, is_table, joined, lesser_of, never_comes, table_of, total_by,
)
from tests.helper import (
    BIG, FALLING, GREATEST, WRONG_NUMBERS, WRONG_ROWS, WRONG_TABLES, check_refusals, long_row, long_table, many_in,
    near, numbers_in, numbers_of, some_rows, some_tables, walked, walked_total,
)

GOOD = [[(0, 0)], [(0, 3)], [(0, 2), (1, 1)], [(0, 0), (5, 1), (6, 0)], [(0, 1), (3, 9), (4, 8)], [(0, BIG)]]
PLACED = [(0, 2), (2, 1), (3, 4), (9, 3), (10, 2)]


def starts_in(*tables):
    """All companies at which a step of these begins."""
    return [c for table in tables for c, _ in table]


class Forms(unittest.TestCase):
    def test_good_ones(self):
        for table in GOOD + [PLACED, long_table(400), long_table(400, BIG, 10 ** 26)]:
            self.assertIs(is_table(table), True)
            self.assertIs(is_rows(table), True)

    def test_those_that_fall_by_two(self):
        for table in FALLING:
            self.assertIs(is_table(table), True)
            self.assertIs(is_rows(table), False)
        for place in range(1, 200):
            table = [(c, c % 2) for c in range(201)]
            table[place] = (place, table[place][1] + 4)
            self.assertIs(is_table(table), True)
            self.assertIs(is_rows(table), False)

    def test_other_things(self):
        for thing in WRONG_TABLES:
            self.assertIs(is_table(thing), False, thing)
            self.assertIs(is_rows(thing), False, thing)

    def test_a_table_is_looked_at_whole(self):
        for place in range(1, 200):
            for step in ((place - 1, 5), (place, (place - 1) % 2), (place, -1), (True, 5), [place, place % 2]):
                table = [(c, c % 2) for c in range(200)]
                table[place] = step
                self.assertIs(is_table(table), False)


class Walked(unittest.TestCase):
    def test_nobody(self):
        self.assertEqual(table_of([]), [(0, 0)])
        self.assertEqual(table_of(()), [(0, 0)])

    def test_by_hand(self):
        self.assertEqual(table_of([(0, 0)]), [(0, 1), (1, 0)])
        self.assertEqual(table_of([(2, None)]), [(0, 0), (2, 1)])
        self.assertEqual(table_of([(2, 4), (0, None)]), [(0, 1), (1, 2), (4, 1)])
        self.assertEqual(table_of([(1, 1), (0, 0)]), [(0, 2), (1, 1), (2, 0)])
        self.assertEqual(table_of([(0, 0), (0, None)]), [(0, 1)])

    def test_few_people_of_each_company(self):
        for row in some_rows(101, 150, 8, 9):
            table = table_of(row)
            self.assertEqual(table_of(tuple(row)), table)
            self.assertTrue(is_rows(table))
            for company in range(30):
                self.assertEqual(total_by(table, company), walked_total(row, company))

    def test_thirty_figures(self):
        for row in some_rows(102, 30, 8, GREATEST) + [[(BIG, BIG), (BIG - 1, BIG), (BIG, None)]]:
            table = table_of(row)
            self.assertTrue(is_rows(table))
            for company in near(numbers_of(row), 9) + [GREATEST]:
                self.assertEqual(total_by(table, company), walked_total(row, company))

    def test_two_hundred_people(self):
        for row in (long_row(103, 150), long_row(104, 900), long_row(105, GREATEST), [(7, 7)] * 200, [(0, None)] * 200):
            table = table_of(row)
            self.assertTrue(is_rows(table))
            for company in near(numbers_of(row)[::40] + starts_in(table)[::20], 1):
                self.assertEqual(total_by(table, company), walked_total(row, company))

    def test_refused(self):
        check_refusals(self, table_of, [[(0, 0)]], [(WRONG_ROWS, NoRow)])

    def test_what_each_says_of_the_company_is_a_saying_or_never_true(self):
        for row in some_rows(106, 80, 8, 8):
            for place in range(len(row)):
                true = [c for c in range(30) if walked(row, c)[0][place]]
                self.assertTrue(not true or true == list(range(true[0], true[-1] + 1)))

    def test_every_table_that_never_falls_by_two_is_some_rows(self):
        sayings = [(least, most) for least in range(5) for most in list(range(least, 5)) + [None]]
        rows = [row for people in range(3) for row in itertools.product(sayings, repeat=people)]
        found = [table_of(row) for row in rows]
        steps = [[(0, a)] + [(c, many) for c, many in ((1, b), (2, d)) if many is not None]
                 for a in range(3) for b in (0, 1, 2, None) for d in (0, 1, 2, None)]
        wanted = [table for table in steps if is_rows(table) and len(numbers_in(never_comes(table))) <= 2]
        self.assertGreater(len(wanted), 10)
        for table in wanted:
            self.assertIn(table, found)


class TotalBy(unittest.TestCase):
    def test_ahead_at_between_and_far_out(self):
        for table in GOOD + FALLING + [PLACED] + some_tables(107, 40, 12, 5):
            for company in near(starts_in(table)) + [GREATEST]:
                self.assertEqual(total_by(table, company), company + many_in(table, company))

    def test_four_hundred_steps(self):
        for table in (long_table(400), long_table(400, BIG, 10 ** 26)):
            for company in near(starts_in(table), 1):
                self.assertEqual(total_by(table, company), company + many_in(table, company))

    def test_refused(self):
        check_refusals(self, total_by, [[(0, 0)], 4], [(WRONG_TABLES, NoTable), (WRONG_NUMBERS, NoNumber)])
        check_refusals(self, total_by, [[(0, 2), (1, 0)], 4], [(WRONG_TABLES, NoTable), (WRONG_NUMBERS, NoNumber)])


class NeverAndFolds(unittest.TestCase):
    def test_by_hand(self):
        self.assertEqual((never_comes([(0, 0)]), folds([(0, 0)])), ([], []))
        self.assertEqual((never_comes([(0, 3)]), folds([(0, 3)])), ([(0, 2)], []))
        # The totals are 2, 3, 3, 7, 8, .. 12, 12, 12, 13.
        self.assertEqual((never_comes(PLACED), folds(PLACED)), ([(0, 1), (4, 6)], [(1, 1), (8, 9)]))

    def test_against_each_company(self):
        for table in some_tables(108, 150, 14, 4) + [table_of(row) for row in some_rows(109, 60, 8, 9)] + [PLACED]:
            reach = table[-1][0] + 2
            totals = [c + many_in(table, c) for c in range(reach + 1)]
            never, folded = never_comes(table), folds(table)
            self.check_stretches(never)
            self.check_stretches(folded)
            self.assertEqual(numbers_in(never), sorted(set(range(totals[-1])) - set(totals)))
            self.assertEqual(numbers_in(folded), [c for c in range(reach) if totals[c] == totals[c + 1]])
            self.assertEqual(len(numbers_in(never)), len(numbers_in(folded)) + table[-1][1])

    def test_thirty_figures(self):
        table = [(0, 0), (BIG, GREATEST - BIG), (BIG + 1, GREATEST - BIG - 1)]
        self.assertEqual(never_comes(table), [(BIG, GREATEST - 1)])
        self.assertEqual(folds(table), [(BIG, BIG)])

    def test_four_hundred_steps(self):
        table = long_table(400, BIG, 10 ** 26)
        rises = [c for (c, many), (_, ahead) in zip(table[1:], table) if many > ahead]
        self.assertEqual([last - first for first, last in never_comes(table)], [1] * len(rises))
        self.assertEqual(folds(table), [(c - 1, c - 1) for c, _ in table[1:] if c not in rises])
        down = [(0, 400)] + [(c, 400 - c) for c in range(1, 400)]
        self.assertEqual((never_comes(down), folds(down)), ([(0, 399)], [(0, 398)]))

    def check_stretches(self, stretches):
        self.assertIsInstance(stretches, list)
        for first, last in stretches:
            self.assertTrue(0 <= first <= last)
        for one, other in zip(stretches, stretches[1:]):
            self.assertIsInstance(one, tuple)
            self.assertGreater(other[0], one[1] + 1)

    def test_refused(self):
        for call in (never_comes, folds):
            check_refusals(self, call, [[(0, 0)]], [(WRONG_TABLES + FALLING, NoTable)])


class Joined(unittest.TestCase):
    def test_against_the_long_row(self):
        for front, back in zip(some_rows(110, 120, 6, 9), some_rows(111, 120, 6, 9)):
            told = joined(table_of(front), table_of(back))
            self.assertEqual(told, table_of(front + back))

    def test_nobody(self):
        for table in GOOD + [PLACED]:
            self.assertEqual(joined([(0, 0)], table), table)
            self.assertEqual(joined(table, [(0, 0)]), table)

    def test_either_way_of_three(self):
        tables = some_tables(112, 60, 9, 4)
        for one, two, three in zip(tables, tables[7:], tables[31:]):
            self.assertEqual(joined(joined(one, two), three), joined(one, joined(two, three)))

    def test_of_the_total_behind(self):
        tables = some_tables(113, 60, 9, 4)
        for front, back in zip(tables, tables[9:]):
            told = joined(front, back)
            self.assertTrue(is_rows(told))
            for c in range(60):
                behind = c + many_in(back, c)
                self.assertEqual(total_by(told, c), behind + many_in(front, behind))

    def test_who_are_alike_may_stand_for_one_another(self):
        seen = {}
        for row in some_rows(114, 400, 3, 3):
            seen.setdefault(str(table_of(row)), []).append(row)
        alike = [rows for rows in seen.values() if len(rows) > 1 and rows[0] != rows[1]]
        self.assertTrue(alike)
        for one, other in [rows[:2] for rows in alike]:
            for third in some_rows(115, 10, 3, 4):
                self.assertEqual(table_of(one + third), table_of(other + third))
                self.assertEqual(table_of(third + one), table_of(third + other))

    def test_two_hundred_people(self):
        for front, back in ((long_row(116, 300), long_row(117, 300)), (long_row(118, GREATEST), long_row(119, GREATEST))):
            told = joined(table_of(front), table_of(back))
            self.assertTrue(is_rows(told))
            for company in near(numbers_of(front)[::60] + numbers_of(back)[::60] + starts_in(told)[::60], 1):
                self.assertEqual(total_by(told, company), total(front, total(back, company)))

    def test_four_hundred_steps(self):
        front, back = long_table(400), long_table(400, 7, 3)
        told = joined(front, back)
        for c in range(1300):
            behind = c + many_in(back, c)
            self.assertEqual(total_by(told, c), behind + many_in(front, behind))

    def test_refused(self):
        faults = [(WRONG_TABLES + FALLING, NoTable), (WRONG_TABLES + FALLING, NoTable)]
        check_refusals(self, joined, [[(0, 0)], [(0, 1)]], faults)


class GreaterAndLesser(unittest.TestCase):
    def test_at_each_company(self):
        tables = some_tables(120, 90, 9, 4)
        for one, other in zip(tables, tables[11:]):
            self.check(one, other, range(50))

    def test_far_out(self):
        for one, other in itertools.combinations([long_table(400), long_table(400, BIG, 10 ** 26), [(0, 3)]], 2):
            self.check(one, other, near(starts_in(one, other)[::9], 1) + [GREATEST])

    def check(self, one, other, companies):
        greater, lesser = greater_of(one, other), lesser_of(one, other)
        self.assertTrue(is_rows(greater))
        self.assertTrue(is_rows(lesser))
        self.assertEqual((greater_of(other, one), lesser_of(other, one)), (greater, lesser))
        for c in companies:
            manies = [many_in(one, c), many_in(other, c)]
            self.assertEqual(many_in(greater, c), max(manies))
            self.assertEqual(many_in(lesser, c), min(manies))

    def test_put_behind_or_in_front(self):
        tables = some_tables(121, 60, 9, 4)
        for one, other, third in zip(tables, tables[7:], tables[13:]):
            for choose in (greater_of, lesser_of):
                both = choose(one, other)
                self.assertEqual(joined(both, third), choose(joined(one, third), joined(other, third)))
                self.assertEqual(joined(third, both), choose(joined(third, one), joined(third, other)))

    def test_refused(self):
        faults = [(WRONG_TABLES + FALLING, NoTable), (WRONG_TABLES + FALLING, NoTable)]
        check_refusals(self, greater_of, [[(0, 0)], [(0, 1)]], faults)
        check_refusals(self, lesser_of, [[(0, 0)], [(0, 1)]], faults)
