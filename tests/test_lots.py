"""Points 30, 31, 32, 34 and 35: lots, rows that have them, and lots paired anew."""

import itertools
import random
import unittest

from boastrow.errors import NoLot
from boastrow.lots import bars, crossed, is_lot, lot_table, more_for, nested, row_for, row_in_order
from boastrow.stretches import lot_of
from boastrow.tables import is_rows, is_table, table_of
from tests.helper import (
    BIG, GREATEST, WRONG_LOTS, WRONG_ORDERED, check_refusals, holds, long_row, long_table, many_in, near, none_behind,
    rows_to, sayings_to, some_rows, some_saying,
)

GOOD = [[], (), [(0, 0)], ((0, 0),), [(5, 5), (0, None), (3, 9), (5, 5)], [(BIG, GREATEST), (0, None)], [(0, 3)] * 200]


def some_lots(seed, count, many, top):
    """So many lots of up to so many stretches of numbers up to top."""
    chance = random.Random(seed)
    return [[some_saying(chance, top) for _ in range(chance.randint(0, many))] for _ in range(count)]


def long_lots():
    """Lots of two hundred stretches, of small numbers and of thirty figures."""
    return some_lots(300, 1, 0, 9) + [long_row(301, 60), long_row(302, 900), long_row(303, GREATEST)]


def without_none(lot):
    """The lot without those who never speak truly."""
    return [stretch for stretch in lot if stretch is not None]


def rows_lots():
    """Lots of rows, Nones left out, in any order."""
    chance = random.Random(304)
    rows = some_rows(305, 150, 9, 9) + some_rows(306, 20, 9, GREATEST) + [long_row(307, 150), long_row(308, GREATEST)]
    out = []
    for row in rows:
        lot = without_none(lot_of(row))
        chance.shuffle(lot)
        out.append(lot)
    return out


def by_lasts(lot):
    """The lot in the order of the told row's."""
    return sorted(lot, key=lambda stretch: none_behind((stretch[1], stretch[0])))


def first_rows():
    """A dict: of each lot of rows of up to three people, as text, the first such row."""
    found = {}
    for people in range(4):
        for row in rows_to(people, 6):
            found.setdefault(str(lot_of(row)), row)
    return found


def ends_slowly(lot):
    """The tuples (c, many) of point 35, counted."""
    out = []
    for c in sorted({last for _, last in lot if last is not None}):
        more = len([one for one in lot if one[1] == c]) - 1 - len([one for one in lot if one[0] == c + 1])
        if more > 0:
            out.append((c, more))
    return out


class Forms(unittest.TestCase):
    def test_good_ones(self):
        for thing in GOOD + some_lots(309, 50, 9, 9) + rows_lots()[:9] + long_lots():
            self.assertIs(is_lot(thing), True)
            self.assertIs(is_lot(tuple(thing)), True)

    def test_other_things(self):
        for thing in WRONG_LOTS:
            self.assertIs(is_lot(thing), False, thing)

    def test_a_lot_is_looked_at_whole(self):
        for place in range(200):
            for wrong in ((1, 0), None, [0, 1]):
                lot = [(0, 1)] * 200
                lot[place] = wrong
                self.assertIs(is_lot(lot), False)


class Tables(unittest.TestCase):
    def test_against_counting(self):
        falls = 0
        for lot in some_lots(310, 150, 9, 9):
            table = lot_table(lot)
            self.assertTrue(is_table(table))
            falls += not is_rows(table)
            self.assertEqual(lot_table(tuple(lot)), table)
            for c in range(25):
                self.assertEqual(many_in(table, c), len([one for one in lot if holds(one, c)]))
        self.assertTrue(falls)

    def test_far_out(self):
        for lot in some_lots(311, 20, 9, GREATEST) + long_lots() + [[(BIG, BIG)] * 200]:
            table = lot_table(lot)
            self.assertTrue(is_table(table))
            for c in near([c for c, _ in table][::1 + len(table) // 30], 1) + [GREATEST]:
                self.assertEqual(many_in(table, c), len([one for one in lot if holds(one, c)]))

    def test_a_rows_table_is_that_of_its_lot(self):
        for row in some_rows(312, 100, 9, 9) + some_rows(313, 10, 9, GREATEST) + [long_row(314, GREATEST)]:
            self.assertEqual(lot_table(without_none(lot_of(row))), table_of(row))
        self.assertEqual(lot_table([]), [(0, 0)])

    def test_refused(self):
        check_refusals(self, lot_table, [[(0, 1)]], [(WRONG_LOTS, NoLot)])


class RowFor(unittest.TestCase):
    def test_by_hand(self):
        self.assertEqual(row_for([]), ("row", []))
        self.assertEqual(row_for(()), ("row", []))
        self.assertEqual(row_for([(0, None), (0, 0)]), ("row", [(0, 1), (0, None)]))
        self.assertEqual(row_for([(2, 3), (2, 3)]), ("ends", 3))
        self.assertEqual(row_for([(2, 3), (2, 3), (4, 9)]), ("row", [(2, 4), (2, 3), (4, 9)]))

    def test_of_rows_lots(self):
        for lot in rows_lots():
            kind, row = row_for(lot)
            self.assertEqual((kind, row_for(tuple(lot))), ("row", ("row", row)))
            self.assertIsInstance(row, list)
            self.assertEqual(lot_of(row), by_lasts(lot))

    def test_the_first_of_small_ones(self):
        found = first_rows()
        kinds = set()
        for many in range(4):
            for lot in itertools.product(sayings_to(2), repeat=many):
                told = row_for(lot)
                kinds.add(told[0])
                ends = ends_slowly(lot)
                orders = [str(list(order)) in found for order in itertools.permutations(lot)]
                self.assertIs(any(orders), not ends)
                if ends:
                    self.assertEqual(told, ("ends", ends[0][0]))
                else:
                    self.assertEqual(told, ("row", found[str(by_lasts(lot))]))
        self.assertEqual(kinds, {"row", "ends"})

    def test_of_lots_that_are_none(self):
        seen = 0
        for lot in some_lots(315, 300, 9, 6) + some_lots(316, 40, 9, 20) + long_lots() + [[(BIG, BIG)] * 200]:
            ends = ends_slowly(lot)
            if ends:
                seen += 1
                self.assertEqual(row_for(lot), ("ends", ends[0][0]))
            else:
                self.assertEqual(lot_of(row_for(lot)[1]), by_lasts(lot))
        self.assertGreater(seen, 50)

    def test_several_times_and_without_bound(self):
        lots = [[(0, None)] * 200, [(BIG, None)] * 200, [(7, 9)] * 100 + [(10, None)] * 100, [(3, 5), (6, 6)] * 100]
        for lot in lots:
            kind, row = row_for(lot)
            if ends_slowly(lot):
                self.assertEqual((kind, row), ("ends", ends_slowly(lot)[0][0]))
            else:
                self.assertEqual((kind, lot_of(row)), ("row", by_lasts(lot)))

    def test_refused(self):
        check_refusals(self, row_for, [[(0, 1)]], [(WRONG_LOTS, NoLot)])


class InOrder(unittest.TestCase):
    def test_by_hand(self):
        self.assertEqual(row_in_order([]), ("row", []))
        self.assertEqual(row_in_order([None]), ("bare", 0))
        self.assertEqual(row_in_order([None, (0, 5)]), ("row", [(0, 0), (0, 5)]))
        self.assertEqual(row_in_order([None, (3, 5)]), ("row", [(3, 3), (3, 5)]))
        self.assertEqual(row_in_order([(2, 3), (2, 3), (4, 9)]), ("row", [(2, 4), (2, 3), (4, 9)]))
        self.assertEqual(row_in_order([(4, 9), (2, 3), (2, 3)]), ("bare", 1))
        self.assertEqual(row_in_order(((6, 8), (0, 5))), ("bare", 0))

    def test_each_small_one(self):
        found = first_rows()
        kinds = set()
        for many in range(4):
            for lot in itertools.product(sayings_to(2) + [None], repeat=many):
                told = row_in_order(list(lot))
                self.assertEqual(row_in_order(lot), told)
                kinds.add(told[0])
                if str(list(lot)) in found:
                    self.assertEqual(told, ("row", found[str(list(lot))]))
                else:
                    bare = [place for place in range(many) if str(list(lot[place:])) not in found]
                    self.assertEqual(told, ("bare", bare[-1]))
        self.assertEqual(kinds, {"row", "bare"})

    def test_of_rows_own_lots(self):
        never = 0
        rows = some_rows(317, 150, 9, 6) + some_rows(318, 20, 9, GREATEST)
        rows += [long_row(319, 60), long_row(320, 150), long_row(321, GREATEST), [(7, 7)] * 200, [(0, None)] * 200]
        for row in rows:
            lot = lot_of(row)
            never += None in lot
            kind, told = row_in_order(lot)
            self.assertEqual((kind, lot_of(told)), ("row", lot))
            self.assertLessEqual(none_behind(told), none_behind(row))
        self.assertGreater(never, 30)

    def test_each_saying_is_the_least_that_does(self):
        for row in some_rows(322, 60, 5, 5):
            lot = lot_of(row)
            told = row_in_order(lot)[1]
            for place in range(len(row)):
                good = [one for one in sayings_to(10) if lot_of([one] + told[place + 1:])[0] == lot[place]]
                self.assertEqual(told[place], good[0])

    def test_the_greatest_place(self):
        for behind in ([], [(5, 9)], [None, (0, None)]):
            lot = [(0, 0), (0, 0), (2, 2), (2, 2)] + behind
            self.assertEqual(row_in_order(lot), ("bare", 2))
        self.assertEqual(row_in_order([(3, 3)] * 200), ("bare", 198))
        self.assertEqual(row_in_order([None] * 200), ("bare", 199))
        kind, row = row_in_order([None] * 199 + [(BIG, GREATEST)])
        self.assertEqual((kind, row), ("row", [(BIG, BIG)] * 199 + [(BIG, GREATEST)]))

    def test_refused(self):
        check_refusals(self, row_in_order, [[(0, 1)]], [(WRONG_ORDERED, NoLot)])


def paired_slowly(lot, last_come):
    """The lot paired anew, number by number, where the last that came, or the first one, is met."""
    waiting, out = [], []
    for c in range(60):
        waiting += [c] * len([one for one in lot if one[0] == c])
        for _ in [one for one in lot if one[1] == c]:
            out.append((waiting.pop(-1 if last_come else 0), c))
    return sorted(out + [(first, None) for first in waiting], key=none_behind)


class Anew(unittest.TestCase):
    def test_by_hand(self):
        lot = [(0, 3), (1, None), (3, 5), (2, 3)]
        self.assertEqual(nested(lot), [(0, None), (1, 5), (2, 3), (3, 3)])
        self.assertEqual(crossed(lot), [(0, 3), (1, 3), (2, 5), (3, None)])
        self.assertEqual((nested([]), crossed(())), ([], []))
        self.assertEqual((nested(((4, 4),)), crossed([(4, 4)])), ([(4, 4)], [(4, 4)]))

    def test_gone_through_by_hand(self):
        unlike = 0
        for lot in some_lots(323, 300, 9, 9) + some_lots(324, 50, 40, 20):
            for given in (lot, tuple(lot)):
                self.assertEqual(nested(given), paired_slowly(lot, True))
                self.assertEqual(crossed(given), paired_slowly(lot, False))
            unlike += nested(lot) != crossed(lot)
        self.assertTrue(unlike)

    def test_they_have_the_lots_table(self):
        for lot in some_lots(325, 100, 9, 9) + some_lots(326, 20, 9, GREATEST) + rows_lots()[-9:] + long_lots():
            for told in (nested(lot), crossed(lot)):
                self.assertTrue(is_lot(told))
                self.assertEqual(told, sorted(told, key=none_behind))
                self.assertEqual(lot_table(told), lot_table(lot))
                self.assertEqual(row_for(told)[0], row_for(lot)[0])
                self.assertEqual(bars(told), bars(lot))
                self.assertEqual(sorted(first for first, _ in told), sorted(first for first, _ in lot))

    def test_nested_and_crossed_again(self):
        for lot in some_lots(327, 60, 9, 9):
            self.assertEqual(nested(crossed(lot)), nested(lot))
            self.assertEqual(crossed(nested(lot)), crossed(lot))

    def test_nested_and_crossed(self):
        for lot in some_lots(328, 60, 9, 9):
            for one, other in itertools.combinations(nested(lot), 2):
                # None behind each number; the one begins first.
                if one[0] < other[0] and one[1] is not None and other[0] <= one[1]:
                    self.assertTrue(other[1] is not None and other[1] <= one[1])
            for one, other in itertools.combinations(crossed(lot), 2):
                self.assertLessEqual(none_behind(one[1]), none_behind(other[1]))

    def test_refused(self):
        for call in (nested, crossed):
            check_refusals(self, call, [[(0, 1)]], [(WRONG_LOTS, NoLot)])


class Bars(unittest.TestCase):
    def test_by_hand(self):
        self.assertEqual((bars([]), more_for([])), ([], []))
        lot = [(0, 3), (1, 3), (3, 3), (3, 3), (4, 9), (5, 9), (2, None)]
        self.assertEqual(bars(lot), [(3, 2), (9, 1)])
        self.assertEqual(more_for(lot), [(4, None), (4, None), (10, None)])
        self.assertEqual(bars(tuple(lot)), [(3, 2), (9, 1)])

    def test_against_counting(self):
        none = several = 0
        for lot in some_lots(329, 300, 12, 6) + some_lots(330, 20, 9, GREATEST) + long_lots() + [[(BIG, BIG)] * 200]:
            told = bars(lot)
            self.assertEqual(told, ends_slowly(lot))
            self.assertIs(row_for(lot)[0] == "row", not told)
            none += not told
            several += len(told) > 1
            self.check_more(lot, told)
        self.assertTrue(none and several)

    def check_more(self, lot, told):
        more = more_for(lot)
        self.assertEqual(more, [(c + 1, None) for c, many in told for _ in range(many)])
        self.assertEqual(row_for(list(lot) + more)[0], "row")
        for place in range(0, len(more), 1 + len(more) // 5):
            fewer = more[:place] + more[place + 1:]
            self.assertEqual(row_for(list(lot) + fewer), ("ends", more[place][0] - 1))

    def test_no_fewer_do(self):
        # Whatever one stretch is put to a lot, no more than one of what ends too often is made up for.
        for lot in some_lots(331, 60, 6, 3):
            many = sum(more for _, more in bars(lot))
            for one in sayings_to(7):
                self.assertGreaterEqual(sum(more for _, more in bars(lot + [one])), many - 1)

    def test_of_lots_that_can(self):
        for lot in rows_lots():
            self.assertEqual((bars(lot), more_for(lot)), ([], []))

    def test_one_at_a_far_place(self):
        table = long_table(200, BIG, 10 ** 26)
        lot = [(c, c + 10 ** 25) for c, _ in table[1:]] + [(table[-1][0] + 1, table[-1][0] + 10 ** 25)]
        self.assertEqual(bars(lot), [(table[-1][0] + 10 ** 25, 1)])
        self.assertEqual(more_for(lot), [(table[-1][0] + 10 ** 25 + 1, None)])

    def test_refused(self):
        for call in (bars, more_for):
            check_refusals(self, call, [[(0, 1)]], [(WRONG_LOTS, NoLot)])
