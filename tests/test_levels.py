"""The helpers that the stages share, where nothing they are used for shows all that they tell."""

import unittest

from boastrow.levels import (
    added_up, changes_by, first_apart, least_to_total, least_to_totals, levelled, levels_along, stretch_to,
)
from tests.helper import many_in, some_tables


class Levels(unittest.TestCase):
    def test_least_to_total(self):
        for table in some_tables(201, 150, 10, 4):
            totals = [c + many_in(table, c) for c in range(80)]
            for total in range(60):
                self.assertEqual(least_to_total(table, total), [c for c in range(80) if totals[c] >= total][0])
            wishes = [0, 0, 1, 2, 5, 5, 9, 10, 30, 31, 59]
            self.assertEqual(least_to_totals(table, wishes), [least_to_total(table, total) for total in wishes])

    def test_levels_along(self):
        for table in some_tables(202, 60, 10, 4):
            points = [0, 0, 1, 2, 5, 5, 9, 10, 30, 31, 59]
            self.assertEqual(levels_along(table, points), [many_in(table, c) for c in points])
        self.assertEqual(levels_along([(0, 3)], []), [])

    def test_first_apart(self):
        for one, other, c in (
            ([(0, 1)], [(0, 1)], None), ([(0, 1)], [(0, 2)], 0), ([(0, 1)], [(0, 1), (4, 2)], 4),
            ([(0, 1), (3, 2)], [(0, 1), (4, 2)], 3), ([(0, 1), (3, 2)], [(0, 1), (3, 4)], 3),
            ([(0, 1), (3, 2), (5, 1)], [(0, 1), (3, 2)], 5),
        ):
            self.assertEqual((first_apart(one, other), first_apart(other, one)), (c, c))

    def test_changes_by(self):
        self.assertEqual(changes_by([]), {})
        self.assertEqual(changes_by([(0, 3), (4, 4), (4, None)]), {0: 1, 4: 1, 5: -1})

    def test_added_up(self):
        self.assertEqual(added_up({}), [(0, 0)])
        self.assertEqual(added_up({5: -1, 0: 2, 3: 0, 4: 1}), [(0, 2), (4, 3), (5, 2)])

    def test_levelled(self):
        self.assertEqual(levelled([(0, 1), (2, 1), (3, 2), (4, 2), (5, 1)]), [(0, 1), (3, 2), (5, 1)])

    def test_stretch_to(self):
        self.assertEqual([stretch_to(3, beyond) for beyond in (3, 4, 9, None)], [None, (3, 3), (3, 8), (3, None)])
