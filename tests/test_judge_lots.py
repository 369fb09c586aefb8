"""Point 33: the judge of papers that a lot is no row's."""

import itertools
import unittest

from boastrow.errors import NoLot
from boastrow.judge_lots import lot_shows
from boastrow.lots import row_for, row_in_order
from boastrow.stretches import lot_of
from tests.helper import (
    BIG, GREATEST, WRONG_ORDERED, check_refusals, holds, sayings_to, some_rows, wrong_papers,
)


def small_lots():
    """Lots of up to three stretches and Nones."""
    return [list(lot) for many in range(4) for lot in itertools.product(sayings_to(2) + [None], repeat=many)]


def can_stand(stretch, behind):
    """Whether who says this of the company can stand in front of those, as point 32 has it."""
    sums = [c + len([one for one in behind if holds(one, c)]) for c in range(12)]
    if stretch is None:
        return not set(range(sums[-1])) <= set(sums)
    first, last = stretch
    begins = first == 0 or sums[first] > sums[first - 1]
    return begins and (last is None or sums[last + 1] > sums[last])


class Shows(unittest.TestCase):
    def test_ends_at_each_number(self):
        seen = set()
        for lot in small_lots():
            for c in range(5):
                ends = len([one for one in lot if one is not None and one[1] == c])
                begins = len([one for one in lot if one is not None and one[0] == c + 1])
                wanted = None not in lot and ends > 1 + begins
                seen.add((wanted, None in lot, ends > 1))
                self.assertIs(lot_shows(lot, ("ends", c)), wanted)
                self.assertIs(lot_shows(tuple(lot), ("ends", c)), wanted)
        self.assertEqual(len(seen), 5)

    def test_bare_at_each_place(self):
        seen = set()
        for lot in small_lots():
            can = [can_stand(lot[place], lot[place + 1:]) for place in range(len(lot))]
            for place in range(len(lot) + 2):
                wanted = place < len(lot) and not can[place] and all(can[place + 1:])
                seen.add((wanted, None in lot))
                self.assertIs(lot_shows(lot, ("bare", place)), wanted)
                self.assertIs(lot_shows(tuple(lot), ("bare", place)), wanted)
        self.assertEqual(len(seen), 4)

    def test_told_papers_hold(self):
        papers = 0
        for lot in small_lots():
            told = [row_in_order(lot)] + ([] if None in lot else [row_for(lot)])
            for paper in told:
                self.assertIs(lot_shows(lot, paper), paper[0] != "row")
                papers += paper[0] != "row"
        self.assertTrue(papers)

    def test_rows_lots_have_none(self):
        for row in some_rows(341, 40, 7, 5):
            for at in range(12):
                self.assertIs(lot_shows(lot_of(row), ("ends", at)), False)
                self.assertIs(lot_shows(lot_of(row), ("bare", at)), False)

    def test_far_out(self):
        lot = [(0, BIG), (4, BIG), (BIG + 1, GREATEST), (7, BIG), (9, GREATEST)] + [(3, None)] * 195
        self.assertIs(lot_shows(lot, ("ends", BIG)), True)
        self.assertIs(lot_shows(lot, ("ends", GREATEST)), True)
        self.assertIs(lot_shows(lot + [None], ("ends", BIG)), False)
        for wrong in (0, BIG - 1, BIG + 1, GREATEST - 1, GREATEST + 1):
            self.assertIs(lot_shows(lot, ("ends", wrong)), False)
        self.assertIs(lot_shows([(BIG, BIG)] * 200, ("bare", 198)), True)
        for wrong in (0, 197, 199, 200, BIG):
            self.assertIs(lot_shows([(BIG, BIG)] * 200, ("bare", wrong)), False)

    def test_papers_of_all_sorts(self):
        for paper in wrong_papers("ends") + wrong_papers("bare"):
            for lot in ([(0, 0), (0, 0)], [(0, 0), (0, 0), None]):
                if paper not in (("ends", 0), ("bare", 0)):
                    self.assertIs(lot_shows(lot, paper), False, paper)
        self.assertIs(lot_shows([(0, 0), (0, 0)], ("ends", 0)), True)
        self.assertIs(lot_shows([(0, 0), (0, 0)], ("bare", 0)), True)

    def test_refused(self):
        for paper in (("ends", 0), ("bare", 0), None, ("ends", -1)):
            def judged(lot):
                return lot_shows(lot, paper)
            check_refusals(self, judged, [[(0, 1)]], [(WRONG_ORDERED, NoLot)])
            self.assertIs(lot_shows([None, (0, 0), (0, 0)], paper), paper == ("bare", 1))
