"""Points 59 and 60: the least table that both of two rows can be made into."""

import copy
import itertools
import unittest

from boastrow.between import needed
from boastrow.errors import NoTable, TooMany
from boastrow.meetings import behind_for_both, front_for_both
from boastrow.steps import in_front, step_behind
from boastrow.tables import is_rows, never_comes, table_of
from tests.helper import (
    BIG, FALLING, GREATEST, WRONG_TABLES, check_refusals, long_row, long_table, many_in, some_rows, some_tables,
)

NOBODY = [(0, 0)]


def all_tables(companies, top):
    """All rows' tables of steps at numbers below so many, of manies up to top, as lists of totals, too."""
    out = []
    for manies in itertools.product(range(top + 1), repeat=companies):
        if all(later >= many - 1 for many, later in zip(manies, manies[1:])):
            out.append([(c, many) for c, many in enumerate(manies) if c == 0 or manies[c - 1] != many])
    return out


SMALL = all_tables(3, 3)
CANDIDATES = all_tables(6, 5)


class ForBoth(unittest.TestCase):
    def test_in_front_by_hand(self):
        self.assertEqual(front_for_both(NOBODY, [(0, 2)]), [(0, 2)])
        # What comes to 3 twice in the one must come to one total, which is the greater of the other's two.
        self.assertEqual(front_for_both([(0, 3), (1, 2)], [(0, 0), (1, 4)]), [(0, 5), (1, 4)])
        # Two companies of the one and two of the other, one of them in both, make three that come to one total.
        self.assertEqual(front_for_both([(0, 5), (1, 4)], [(0, 5), (2, 4)]), [(0, 6), (1, 5), (2, 4)])

    def test_behind_by_hand(self):
        self.assertEqual(behind_for_both(NOBODY, [(0, 2)]), [(0, 2)])
        # The one never comes to 1 and 2, the other one never to 3.
        one, other = [(0, 0), (1, 2)], [(0, 0), (3, 1)]
        self.assertEqual((never_comes(one), never_comes(other)), ([(1, 2)], [(3, 3)]))
        self.assertEqual(behind_for_both(one, other), [(0, 0), (1, 3), (2, 2)])

    def check_least(self, call, can, one, other):
        told = call(one, other)
        self.assertIs(is_rows(told), True)
        self.assertTrue(can(one, told) and can(other, told))
        self.assertEqual(call(other, one), told)
        manies = [many_in(told, c) for c in range(12)]
        for table in CANDIDATES:
            if can(one, table) and can(other, table):
                self.assertTrue(all(many_in(table, c) >= many for c, many in enumerate(manies)))

    def test_no_lesser_table_in_front(self):
        def can(now, wished):
            return needed(NOBODY, now, wished) is not None

        for at in range(0, len(SMALL), 11):
            self.check_least(front_for_both, can, SMALL[at], SMALL[-1 - at * 7 % len(SMALL)])

    def test_no_lesser_table_behind(self):
        def can(now, wished):
            return needed(now, NOBODY, wished) is not None

        for at in range(0, len(SMALL), 11):
            self.check_least(behind_for_both, can, SMALL[at], SMALL[-1 - at * 7 % len(SMALL)])

    def test_both_can_be_made_into_it(self):
        for one, other in itertools.product(some_tables(591, 12, 7, 3), some_tables(592, 12, 7, 3)):
            for table in (one, other):
                self.assertEqual(in_front(table, front_for_both(one, other))[0], "row")
                self.assertEqual(step_behind(table, behind_for_both(one, other))[0], "row")

    def test_tables_and_themselves(self):
        for table in some_tables(593, 40, 7, 3) + [NOBODY, long_table(400), long_table(400, BIG, 10 ** 26)]:
            for call in (front_for_both, behind_for_both):
                told = call(table, list(table))
                self.assertEqual(told, table)
                self.assertIsNot(told, table)

    def test_one_made_of_the_other(self):
        for one, other in zip(some_rows(594, 60, 5, 6), some_rows(595, 60, 5, 6)):
            self.assertEqual(front_for_both(table_of(other), table_of(one + other)), table_of(one + other))
            self.assertEqual(behind_for_both(table_of(one), table_of(one + other)), table_of(one + other))

    def test_four_hundred_steps_and_two_hundred_people(self):
        for one, other in (
            (long_table(400), long_table(399, 3, 2)), (long_table(400, BIG, 10 ** 26), long_table(400, BIG + 5, 10 ** 26)),
            (table_of(long_row(596, 500)), table_of(long_row(597, 500))),
            (table_of(long_row(598, GREATEST)), table_of(long_row(599, GREATEST))),
        ):
            ahead, behind = front_for_both(one, other), behind_for_both(one, other)
            self.assertTrue(is_rows(ahead) and is_rows(behind))
            for table in (one, other):
                self.assertIsNotNone(needed(NOBODY, table, ahead))
                self.assertIsNotNone(needed(table, NOBODY, behind))
        self.assertEqual(front_for_both([(0, BIG)], [(0, 0), (5, GREATEST)]), [(0, BIG), (5, GREATEST)])

    def test_too_many_behind_alone(self):
        for one, other, many in (
            ([(0, 301)], NOBODY, 301), (NOBODY, [(0, 0), (7, 301), (9, 300)], 301), ([(0, 500)], [(0, 400)], 500),
            ([(0, 5)], [(0, 0), (3, GREATEST)], GREATEST), ([(0, 0), (2, BIG), (3, BIG - 1)], [(0, 302)], BIG),
        ):
            with self.assertRaises(TooMany) as caught:
                behind_for_both(one, other)
            self.assertEqual(caught.exception.many, many)
            self.assertIs(is_rows(front_for_both(one, other)), True)
        told = behind_for_both([(0, 300)], [(0, 0), (5, 300)])
        self.assertEqual(told, [(0, 305), (1, 304), (2, 303), (3, 302), (4, 301), (5, 300)])

    def test_refused(self):
        rows = (WRONG_TABLES + FALLING, NoTable)
        for call in (front_for_both, behind_for_both):
            check_refusals(self, call, [[(0, 1)], [(0, 2), (4, 1)]], [rows, rows])
            check_refusals(self, call, [[(0, 301)] if call is front_for_both else [(0, 300)], NOBODY], [rows, rows])
        with self.assertRaises(NoTable):
            behind_for_both([(0, 301)], FALLING[0])

    def test_what_is_handed_in_stays(self):
        one, other = [(0, 3), (1, 2), (5, 9)], [(0, 0), (1, 4), (2, 3)]
        kept = copy.deepcopy((one, other))
        for call in (front_for_both, behind_for_both):
            told = call(one, other)
            self.assertEqual((one, other), kept)
            first = list(told)
            told.append("spoiled")
            self.assertEqual(call(one, other), first)
