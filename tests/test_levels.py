"""The helpers that the stages share, where nothing they are used for shows all that they tell."""

import unittest

from boastrow.levels import added_up, least_to_total, levelled, stretch_to
from tests.helper import many_in, some_tables


class Levels(unittest.TestCase):
    def test_least_to_total(self):
        for table in some_tables(201, 150, 10, 4):
            totals = [c + many_in(table, c) for c in range(80)]
            for total in range(60):
                self.assertEqual(least_to_total(table, total), [c for c in range(80) if totals[c] >= total][0])

    def test_added_up(self):
        self.assertEqual(added_up({}), [(0, 0)])
        self.assertEqual(added_up({5: -1, 0: 2, 3: 0, 4: 1}), [(0, 2), (4, 3), (5, 2)])

    def test_levelled(self):
        self.assertEqual(levelled([(0, 1), (2, 1), (3, 2), (4, 2), (5, 1)]), [(0, 1), (3, 2), (5, 1)])

    def test_stretch_to(self):
        self.assertEqual([stretch_to(3, beyond) for beyond in (3, 4, 9, None)], [None, (3, 3), (3, 8), (3, None)])
