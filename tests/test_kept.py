"""Point 2: what is told is new and the asker's own, what is handed in stays as it was."""

import unittest

from boastrow.apart import alike, least_apart, least_less
from boastrow.between import front_first, needed, table_between, window
from boastrow.far import (
    account, account_holds, ever_comes, far_heard, far_speaks, far_total, is_folded, least_company, rest_of, so_manieth,
    stretch_at, times_until, true_among,
)
from boastrow.fewest import fewest, may_go, within
from boastrow.judge_apart import apart_holds
from boastrow.judge_fewest import falls_holds, totals_hold
from boastrow.judge_lots import lot_shows
from boastrow.judge_steps import needs_paper, needs_shown, nobody_shows
from boastrow.lots import bars, crossed, lot_table, more_for, nested, row_for, row_in_order
from boastrow.meetings import behind_for_both, front_for_both
from boastrow.powers import is_long, laid_out, people_in, place_of, saying_at, which_at
from boastrow.rows import changed, comes, heard, parted, put_in, taken, total, words
from boastrow.sets import (
    at_once, fewest_sets, set_table, set_total, set_words, sets_apart, sets_of, sayings_more, shown_at_once, true_at,
)
from boastrow.shelves import (
    Shelf, book, books_to, deeds_between, led, shelf_by, shelf_of, table_of_shelf,
)
from boastrow.steps import in_front, left_front, spare_behind, spare_front, step_behind, step_between
from boastrow.stretches import changes, lot_of, says_of, when
from boastrow.tables import folds, greater_of, joined, lesser_of, never_comes, table_by, table_of, total_by
from boastrow.walks import hindmost, swayed, true_between
from boastrow.wished import how_few, may_lead, peeled, row_of
from boastrow.wishes import companies, companies_between, least_from, wishes
from tests.helper import check_own

ROW = [(1, 2), (0, 0), (3, None), (2, 5)]
OTHER = [(0, 2), (0, 0), (2, None), (0, 3), (1, 1)]
TABLE = [(0, 1), (3, 9), (4, 8)]
LESS = [(0, 0), (2, 1), (6, 0)]
LOT = [(0, 3), (4, 4), (1, None)]
ENDING = [(0, 4), (2, 4), (3, 4)]
SETS = [[(0, 1), (3, None)], [], [(2, 2)]]
OTHERS = [[(0, 0)], [(1, 4), (6, 6)]]
FRONT = [(0, 0), (2, 2), (3, 1), (4, 0)]
BACK = [(0, 1), (3, 0)]
WISHED = [(0, 8), (3, 7), (5, 9)]
LONG = [(0, 1), ("again", 3, [(2, None), ("again", 2, [(1, 1), (0, 0)])]), (5, 6)]
LONGER = [("again", 400, [(0, 7)]), ("again", 2, [(3, None), ("again", 4, [])]), (2, 2)]
SHELF = [(0, 1), (2, 3), (4, 0)]
BOOKS = [(0, 4), (3, 2), (4, 0)]


class Kept(unittest.TestCase):
    def test_rows(self):
        for call in (words, heard, total, table_of):
            company = [] if call is table_of else [4]
            check_own(self, call, [ROW, *company], [OTHER, *company])
        check_own(self, comes, [ROW, 4, 1], [OTHER, 4, 1])
        check_own(self, put_in, [ROW, 1, (0, 1)], [OTHER, 1, (0, 1)])
        check_own(self, taken, [ROW, 1], [OTHER, 1])
        check_own(self, changed, [ROW, 1, (0, 1)], [OTHER, 1, (0, 1)])
        check_own(self, parted, [ROW, 2], [OTHER, 2])

    def test_parted_at_the_ends(self):
        check_own(self, parted, [ROW, 0], [OTHER, 0])
        check_own(self, parted, [ROW, 4], [OTHER, 4])

    def test_walks(self):
        check_own(self, swayed, [ROW, 2, 3], [OTHER, 2, 3])
        check_own(self, true_between, [ROW, 4, 1], [OTHER, 4, 1])
        check_own(self, hindmost, [ROW, 4, 1], [OTHER, 4, 1])

    def test_tables(self):
        check_own(self, total_by, [TABLE, 3], [LESS, 3])
        check_own(self, never_comes, [TABLE], [LESS])
        check_own(self, folds, [TABLE], [LESS])
        check_own(self, table_by, [[(0, 3)], [(1, 2)]], [[(2, 4)], [(5, 5)]])

    def test_two_tables(self):
        for call in (joined, greater_of, lesser_of):
            check_own(self, call, [TABLE, LESS], [LESS + [(9, 12)], TABLE])
            level = [(0, 3)] if call is lesser_of else [(0, 0)]
            check_own(self, call, [TABLE, level], [LESS, level])
            check_own(self, call, [level, TABLE], [level, LESS])

    def test_one_thing_handed_in_twice(self):
        table = list(TABLE)
        for call in (joined, greater_of, lesser_of):
            told = call(table, table)
            self.assertIsNot(told, table)
            told.append("spoiled")
            self.assertEqual(table, TABLE)

    def test_apart(self):
        for call in (alike, least_apart, least_less):
            check_own(self, call, [LESS, TABLE], [TABLE, TABLE])
        check_own(self, apart_holds, [LESS, TABLE, ("apart", 1)], [TABLE, TABLE, ("apart", 1)])

    def test_shelves(self):
        check_own(self, book, [SHELF, 3], [BOOKS, 3])
        check_own(self, books_to, [SHELF, 3], [BOOKS, 3])
        check_own(self, shelf_of, [ROW], [OTHER])
        check_own(self, shelf_by, [TABLE], [LESS])
        check_own(self, table_of_shelf, [SHELF], [BOOKS])

    def test_deeds(self):
        check_own(self, led, [SHELF, [("double", 0)]], [BOOKS, [("strike", 1), ("strike", 1)]])
        check_own(self, led, [SHELF, []], [BOOKS, []])
        check_own(self, deeds_between, [SHELF, BOOKS], [BOOKS, SHELF])
        check_own(self, deeds_between, [[], SHELF], [[(4, 0)], [(0, 9)]])

    def test_the_shelf_told_by_a_shelf(self):
        def told(shelf):
            made = Shelf(shelf=shelf)
            made.enter((3, 4))
            return made.told()

        check_own(self, told, [SHELF], [BOOKS])
        made = Shelf(shelf=SHELF)
        first = made.told()
        first.append("spoiled")
        self.assertEqual(made.told(), SHELF)
        self.assertEqual(made.told(), made.told())

    def test_wishes(self):
        check_own(self, wishes, [ROW, 5], [OTHER, 5])
        check_own(self, companies, [ROW, 5], [OTHER, 5])
        check_own(self, companies_between, [ROW, 5, 6], [OTHER, 5, 6])
        check_own(self, least_from, [ROW, 1, 6], [OTHER, 1, 6])

    def test_stretches(self):
        check_own(self, says_of, [ROW, 0], [OTHER, 0])
        check_own(self, lot_of, [ROW], [OTHER])
        check_own(self, lot_of, [[]], [OTHER])
        check_own(self, changes, [ROW], [OTHER])
        check_own(self, changes, [[]], [OTHER])
        check_own(self, when, [ROW, [None, None, False, True]], [OTHER, [None, None, None, None, False]])
        check_own(self, when, [[], []], [OTHER, [None, None, None, None, True]])

    def test_lots(self):
        for call in (lot_table, row_for, row_in_order, nested, crossed):
            check_own(self, call, [LOT], [ENDING])
        for call in (bars, more_for):
            check_own(self, call, [ENDING], [LOT])
        check_own(self, row_for, [[]], [LOT])
        check_own(self, nested, [[]], [LOT])
        check_own(self, lot_shows, [ENDING, ("ends", 4)], [LOT, ("ends", 4)])

    def test_wished(self):
        for call in (row_of, how_few, peeled):
            check_own(self, call, [TABLE], [LESS])
            check_own(self, call, [LESS], [[(0, 0)]])
        check_own(self, may_lead, [LESS, (2, 5)], [TABLE, (2, 5)])

    def test_fewest(self):
        for call in (fewest, may_go):
            check_own(self, call, [ROW], [OTHER])
        check_own(self, fewest, [[(0, 1), (5, None)]], [ROW])
        check_own(self, within, [ROW, 2], [[(4, None)] * 3, 2])
        check_own(self, within, [ROW, 9], [OTHER, 9])

    def test_judges_of_the_fewest(self):
        check_own(self, falls_holds, [[(0, 0), (2, 3), (3, 1)], ("falls", 2)], [TABLE, ("falls", 2)])
        check_own(self, totals_hold, [TABLE, 0, ("totals", [(0, 0)])], [LESS, 0, ("totals", [(0, 0)])])
        paper = ("totals", [(0, 0), (4, 5)])
        totals_hold(TABLE, 1, paper)
        self.assertEqual(paper, ("totals", [(0, 0), (4, 5)]))

    def test_sets(self):
        check_own(self, set_words, [SETS, 2], [OTHERS, 2])
        check_own(self, set_total, [SETS, 2], [OTHERS, 2])
        for call in (set_table, true_at, sayings_more):
            check_own(self, call, [SETS], [OTHERS])
        check_own(self, true_at, [[]], [OTHERS])
        check_own(self, sets_of, [ROW], [OTHER])
        check_own(self, sets_of, [[]], [OTHER])
        check_own(self, fewest_sets, [TABLE], [LESS])
        check_own(self, fewest_sets, [[(0, 0)]], [LESS])
        check_own(self, shown_at_once, [TABLE, ("at once", 4)], [LESS, ("at once", 4)])
        check_own(self, at_once, [TABLE], [LESS])
        check_own(self, sets_apart, [SETS, OTHERS], [OTHERS, OTHERS])

    def test_each_set_is_a_list_of_its_own(self):
        held = [(0, 1), (3, 4)]
        for call, thing in ((true_at, [held, held, []]), (sets_of, [(0, 1)] * 3)):
            told = call(thing)
            kept = [list(one) for one in told]
            told[0].append("spoiled")
            self.assertEqual((told[1:], call(thing)), (kept[1:], kept))
        self.assertEqual(held, [(0, 1), (3, 4)])
        inner = [list(one) for one in SETS]
        first = set_table(inner)
        inner[2][:] = [(0, None)]
        self.assertEqual(set_table(inner), set_table([[(0, 1), (3, None)], [], [(0, None)]]))
        self.assertNotEqual(set_table(inner), first)

    def test_between(self):
        check_own(self, window, [FRONT, BACK, WISHED, 3], [TABLE, BACK, WISHED, 3])
        for call in (table_between, needed):
            check_own(self, call, [FRONT, BACK, WISHED], [BACK, BACK, [(0, 9), (3, 8)]])
            check_own(self, call, [[(0, 0)], [(0, 0)], WISHED], [[(0, 0)], [(0, 0)], TABLE])
        check_own(self, front_first, [BACK, [(0, 0)], BACK], [FRONT, BACK, WISHED])

    def test_steps(self):
        check_own(self, step_between, [FRONT, BACK, WISHED], [TABLE, BACK, WISHED])
        check_own(self, step_between, [[(0, 0)], [(0, 0)], [(0, 0)]], [FRONT, BACK, WISHED])
        check_own(self, in_front, [BACK, WISHED], [BACK, [(0, 2), (3, 1)]])
        check_own(self, step_behind, [FRONT, [(0, 4)]], [BACK, [(0, 5)]])
        check_own(self, left_front, [ROW, 2], [OTHER, 2])
        check_own(self, spare_front, [[(0, 0), (0, 0), (0, None)], 2], [[(0, None)] * 3, 2])
        check_own(self, spare_behind, [[(0, 9), (0, 0), (0, 0)], 2], [[(0, None)] * 3, 2])

    def test_judges_of_steps(self):
        check_own(self, nobody_shows, [FRONT, BACK, [(0, 3)], ("never", 3)], [[(0, 0)], BACK, [(0, 3)], ("never", 3)])
        check_own(self, needs_paper, [[(0, 0)], BACK, WISHED], [[(0, 0)], BACK, [(0, 1), (4, 7)]])
        check_own(self, needs_paper, [[(0, 0)], [(0, 1)], [(0, 1)]], [[(0, 0)], [(0, 2)], [(0, 1)]])
        paper = ("rises", [(None, 0)])
        check_own(self, needs_shown, [[(0, 0)], BACK, WISHED, paper], [[(0, 0)], BACK, [(0, 9), (3, 8)], paper])

    def test_meetings(self):
        for call in (front_for_both, behind_for_both):
            check_own(self, call, [TABLE, LESS], [FRONT, LESS])
            check_own(self, call, [BACK, [(0, 0)]], [FRONT, [(0, 0)]])
            table = list(TABLE)
            self.assertIsNot(call(table, table), table)

    def test_long_rows(self):
        for call in (people_in, laid_out):
            check_own(self, call, [LONG], [LONG[:2]])
        check_own(self, laid_out, [[(0, 1), (2, 3)]], [LONG])
        check_own(self, is_long, [LONG], [[(1, 0)]])
        check_own(self, saying_at, [LONG, 1], [LONGER, 1])
        check_own(self, which_at, [LONG, 1], [LONGER, 1])
        check_own(self, place_of, [LONG, 1, 0], [LONGER, 1, 0])

    def test_far(self):
        for call, left in ((far_total, []), (account, []), (far_heard, [0]), (true_among, [9]), (so_manieth, [1])):
            check_own(self, call, [LONG, 3, *left], [LONGER, 3, *left])
            check_own(self, call, [LONGER, 3, *left], [LONG, 3, *left])
        check_own(self, least_company, [LONG, 9], [[(0, 1)], 9])
        check_own(self, rest_of, [[(0, 7)], 2], [[("again", 400, [(0, 9)])], 2])
        check_own(self, rest_of, [LONG, 2], [[(0, 9)], 2])
        check_own(self, times_until, [LONG, 3, 9], [[("again", 400, [(0, 9)])], 3, 9])
        check_own(self, ever_comes, [LONG, 1], [[], 1])
        check_own(self, is_folded, [[(0, 0)], 0], [[], 0])
        check_own(self, far_speaks, [[(0, None)] * 3, 0, 0], [LONGER, 0, 0])
        check_own(self, stretch_at, [[(0, None)] * 3, 0], [LONGER, 0])
        check_own(self, account_holds, [LONG, 3, account(LONG, 3)], [LONGER, 3, account(LONG, 3)])

    def test_lists_within_a_long_row(self):
        inner = [(1, 1), (0, 0)]
        long = [(0, 1), ("again", 900, [(2, None), ("again", 2, inner)])]
        first = [far_total(long, 0), people_in(long), account(long, 0), which_at(long, 5)]
        inner[:] = [(0, None)]
        other = [(0, 1), ("again", 900, [(2, None), ("again", 2, [(0, None)])])]
        later = [far_total(long, 0), people_in(long), account(long, 0), which_at(long, 5)]
        self.assertEqual(later, [far_total(other, 0), people_in(other), account(other, 0), which_at(other, 5)])
        self.assertTrue(all(one != two for one, two in zip(first, later)))
