"""Points 85 and 86: texts, written and read back."""

import random
import unittest

from boastrow.errors import NoLong, NoShelf, NoStretches, NoTable, NoText
from boastrow.powers import is_long, people_in
from boastrow.shelves import shelf_of
from boastrow.stretches import lot_of
from boastrow.tables import never_comes, table_of
from boastrow.texts import (
    read_lot, read_row, read_shelf, read_stretches, read_table, show_row, show_shelf, show_stretches, show_table,
)
from tests.helper import (
    BIG, FALLING, GREATEST, WRONG_SHELVES, WRONG_TABLES, Like, check_own, check_refusals, long_row, long_table, some_rows,
    some_tables, spoil,
)
from tests.long_helper import WRONG_LONGS, deep_long, nested, some_longs

WRONG_STRETCHES = [
    None, 0, True, "", "0-1", {}, set(), (0, 1), (0, None), [0, 1], [None], [(0, 1), None], [[0, 1]], [(1, 0)], [(0, True)],
    [(-1, 0)], [(0, 1, 2)], [(0,)], [()], [(0.0, 1)], ["0-"], object(), Like(), [Like()], (one for one in [(0, 1)]),
]
ROWS = [
    ("", []), ("0-0", [(0, 0)]), ("0-", [(0, None)]), ("1-2 0-0 3- 2-5", [(1, 2), (0, 0), (3, None), (2, 5)]),
    ("10-20", [(10, 20)]), ("0*()", [("again", 0, [])]), ("3*(0-1 2-)", [("again", 3, [(0, 1), (2, None)])]),
    ("2*(3*())", [("again", 2, [("again", 3, [])])]), ("1- 2*(3*(0-0)) 4-", [
        (1, None), ("again", 2, [("again", 3, [(0, 0)])]), (4, None),
    ]),
    ("2*(3*() 4*(5-6 7*()) 8-) 9*()", [
        ("again", 2, [("again", 3, []), ("again", 4, [(5, 6), ("again", 7, [])]), (8, None)]), ("again", 9, []),
    ]),
    (f"{GREATEST}*({BIG}-{BIG})", [("again", GREATEST, [(BIG, BIG)])]), (f"0*({10 ** 40}*(0-{10 ** 50}))", [
        ("again", 0, [("again", 10 ** 40, [(0, 10 ** 50)])]),
    ]),
]
NO_ROWS = [
    ("2-1", 0), ("0-1 3-2 x", 1), ("0-1 0", 1), ("0", 0), ("-", 0), ("-1", 0), ("-1-2", 0), ("0-1-2", 0), ("0--1", 0),
    ("00-1", 0), ("0-01", 0), ("01-", 0), ("+1-2", 0), ("1-+2", 0), ("1_0-20", 0), ("a-b", 0), ("0-x", 0), ("0-1,", 0),
    ("0-1  2-3", 1), (" 0-1", 0), ("0-1 ", 1), (" ", 0), ("  ", 0), ("0-1\n", 0), ("0-1\t2-3", 0), ("\n", 0),
    ("2*(", 0), ("2*( 0-1)", 0), ("2*(0-1", 1), ("2*(0-1 3-4", 2), ("2*(0-1 3*(2-)", 2), ("0-1)", 0), ("0-1 2-3) 4-x", 1),
    ("2*(0-1))", 0), ("2*(0-1) )", 1), (")", 0), ("2*(0-1 )", 1), ("2*()) x", 0), ("2*()0-1", 0), ("2*(0-1)2-3", 0),
    ("2*()3*()", 0), ("(0-1)", 0), ("*(0-1)", 0), ("2(0-1)", 0), ("2*0-1", 0), ("02*(0-1)", 0), ("-2*(0-1)", 0),
    ("2*((0-1))", 0), ("x*(0-1)", 0), ("2 *(0-1)", 0), ("2* (0-1)", 0), ("2*(0-1 3*(", 1), ("2*(3*(1-)", 1),
    ("0-1 2*(3-2)", 1), (f"{10 ** 30}*(0-1)", 1), (f"{GREATEST}*(0-1) 0-1", 2), (f"0-1 {10 ** 15}*({10 ** 15}*(0-1))", 2),
    ("\u0661-\u0662", 0), ("\u00b2-", 0), ("0\u20111", 0), ("0-1\u00a00-1", 0), ("2*(0-1\uff09", 0), ("none", 0), ("never", 0),
]
NO_TEXTS = [None, 0, True, b"", b"0-1", [], ["0-1"], (), {}, set(), 1.0, object(), Like()]


class Written(unittest.TestCase):
    def test_rows_by_hand(self):
        for text, row in ROWS:
            self.assertEqual(show_row(row), text)
            self.assertEqual(show_row(tuple(row)), text)
            self.assertEqual(read_row(text), row)
        self.assertEqual(show_row((("again", 2, ((0, 1), ("again", 0, ()))),)), "2*(0-1 0*())")

    def test_others_by_hand(self):
        for show, read, text, thing in (
            (show_table, read_table, "0:0", [(0, 0)]), (show_table, read_table, "0:2 1:1 5:9", [(0, 2), (1, 1), (5, 9)]),
            (show_table, read_table, f"0:{BIG} {BIG}:0", [(0, BIG), (BIG, 0)]), (show_stretches, read_stretches, "", []),
            (show_stretches, read_stretches, "0-0 2-5 7-", [(0, 0), (2, 5), (7, None)]),
            (show_stretches, read_lot, "7- 2-5 2-5 0-3", [(7, None), (2, 5), (2, 5), (0, 3)]),
            (show_stretches, read_lot, "", []), (show_shelf, read_shelf, "", []),
            (show_shelf, read_shelf, "0:1 2:0 10:3", [(0, 1), (2, 0), (10, 3)]),
        ):
            self.assertEqual(show(thing), text)
            self.assertEqual(read(text), thing)
        self.assertEqual(show_stretches(((2, 5), (0, None))), "2-5 0-")

    def test_there_and_back(self):
        for long in some_longs(851, 100) + some_rows(852, 40, 12, 30) + [
            long_row(853, GREATEST), deep_long(854, 8, 20, BIG, 1000),
        ]:
            text = show_row(long)
            read = read_row(text)
            self.assertEqual(show_row(read), text)
            self.assertEqual(people_in(read), people_in(long))
            if isinstance(long, list) and all(len(one) == 2 for one in long):
                self.assertEqual(read, long)
        for row in some_rows(855, 60, 8, 20):
            table = table_of(row)
            self.assertEqual(read_table(show_table(table)), table)
            self.assertEqual(read_stretches(show_stretches(never_comes(table))), never_comes(table))
            self.assertEqual(read_shelf(show_shelf(shelf_of(row))), shelf_of(row))
            lot = [stretch for stretch in lot_of(row) if stretch is not None]
            self.assertEqual(read_lot(show_stretches(lot)), lot)
        for table in some_tables(856, 40, 8, 5) + FALLING + [long_table(400, BIG, 10 ** 26)]:
            self.assertEqual(read_table(show_table(table)), table)

    def test_four_thousand_signs(self):
        text = " ".join(["0-"] * 1333)
        self.assertEqual(read_row(text), [(0, None)] * 1333)
        deep = "1*(" * 999 + "5-5" + ")" * 999
        self.assertLessEqual(len(deep), 4000)
        read = read_row(deep)
        self.assertEqual((people_in(read), show_row(read)), (1, deep))
        self.assertEqual(show_row(nested(999, 1, [(5, 5)])), deep)
        empty = "9*(" * 990 + ")" * 990
        self.assertEqual(show_row(read_row(empty)), empty)
        self.at(read_row, "9*(" * 990 + "0-0" + ")" * 990, 1)
        self.at(read_row, "1*(" * 990 + "5-5" + ")" * 989, 1)
        self.at(read_row, "1*(" * 990 + "5-5" + ")" * 991, 0)
        self.at(read_row, "1*(" * 990 + "5-5 " + "6-6 " * 4 + "1-0" + ")" * 990, 5)
        figures = "1" * 1990
        self.assertEqual(read_lot(f"{figures}-{figures}"), [(int(figures), int(figures))])
        self.assertEqual(read_row(f"0*({figures}-{figures})"), [("again", 0, [(int(figures), int(figures))])])

    def test_deeper_than_may_be_handed_in(self):
        for depth in (9, 20, 90):
            text = "2*(" * depth + "0-" + ")" * depth
            read = read_row(text)
            self.assertIs(is_long(read), True)
            self.assertEqual((show_row(read), people_in(read)), (text, 2 ** depth))
        self.at(read_row, "2*(" * 100 + "0-" + ")" * 100, 1)

    def at(self, read, text, at):
        """The text is refused at this word."""
        with self.subTest(read=read.__name__, text=text), self.assertRaises(NoText) as caught:
            read(text)
        self.assertEqual(caught.exception.at, at, text)

    def test_no_rows(self):
        for text, at in NO_ROWS:
            self.at(read_row, text, at)

    def test_no_tables(self):
        for text, at in (
            ("", 0), ("1:0", 0), ("0:0 0:1", 1), ("0:0 2:1 1:2", 2), ("0:0 1:0", 1), ("0:1 4:1 x", 1), ("0:0 x 1:0", 1),
            ("0:0 ", 1), (" 0:0", 0), ("0:0  1:1", 1), (" ", 0), ("0", 0), ("0:", 0), (":0", 0), (":", 0), ("0:0:0", 0),
            ("00:0", 0), ("0:01", 0), ("0:-1", 0), ("0-0", 0), ("0:0 1:+1", 1), ("0:0,1:1", 0), ("0:\u0661", 0),
            ("0:0\n", 0), ("0 :0", 0), ("0: 0", 0),
        ):
            self.at(read_table, text, at)

    def test_no_stretches(self):
        for text, at in (
            ("2-1", 0), ("0-1 1-2", 1), ("0-1 2-3", 1), ("0- 5-6", 1), ("5-6 0-1", 1), ("5-6 0-1 x", 1), ("0-1 x 0-1", 1),
            ("0-1 3-4 3-4", 2), ("0-1 3- 5-6", 2), ("0-1 ", 1), (" 0-1", 0), ("0-1  3-4", 1), (" ", 0), ("0", 0), ("0-01", 0), ("0:1", 0),
            ("never", 0), ("0-1)", 0), ("2*(0-1)", 0),
        ):
            self.at(read_stretches, text, at)

    def test_no_lots(self):
        for text, at in (
            ("2-1", 0), ("0-1 0-1 5-4", 2), ("0-1 never", 1), ("0-1 ", 1), (" 0-1", 0), ("0-1  3-4", 1), (" ", 0),
            ("0-1 2*(0-1)", 1), ("0", 0), ("-", 0), ("0-1\n", 0),
        ):
            self.at(read_lot, text, at)

    def test_no_shelves(self):
        for text, at in (
            ("0:0", 0), ("1:1", 0), ("0:1 3:1", 1), ("2:0 2:3", 1), ("2:0 1:3", 1), ("2:0 1:1 x", 1), ("2:0 x 1:1", 1), ("2:0 5:0 4:0", 2),
            ("2:0 ", 1), (" 2:0", 0), ("2:0  3:0", 1), (" ", 0), ("2", 0), ("2:", 0), ("2:00", 0), ("02:0", 0), ("2-0", 0),
        ):
            self.at(read_shelf, text, at)

    def test_no_texts(self):
        for read in (read_row, read_table, read_stretches, read_lot, read_shelf):
            for thing in NO_TEXTS:
                with self.assertRaises(NoText) as caught:
                    read(thing)
                self.assertIsNone(caught.exception.at)

    def test_refused(self):
        check_refusals(self, show_row, [[(0, 1)]], [(WRONG_LONGS, NoLong)])
        check_refusals(self, show_table, [[(0, 1)]], [(WRONG_TABLES, NoTable)])
        check_refusals(self, show_stretches, [[(0, 1)]], [(WRONG_STRETCHES, NoStretches)])
        check_refusals(self, show_shelf, [[(0, 1)]], [(WRONG_SHELVES, NoShelf)])

    def test_each_text_that_is_read_is_the_one_that_is_written(self):
        chance = random.Random(857)
        read = 0
        for _ in range(6000):
            text = "".join(chance.choice("0123- -)*( 2*( 0-1 1-") for _ in range(chance.randint(0, 12)))
            try:
                row = read_row(text)
            except NoText as no_text:
                self.assertTrue(0 <= no_text.at <= len(text.split(" ")))
                continue
            self.assertEqual(show_row(row), text)
            read += 1
        self.assertGreater(read, 20)

    def test_kept(self):
        check_own(self, show_row, [[(0, 1), ("again", 2, [(3, None)])]], [[(0, 2)]])
        check_own(self, show_table, [[(0, 1)]], [[(0, 2)]])
        check_own(self, show_stretches, [[(0, 1)]], [[(0, 2)]])
        check_own(self, show_shelf, [[(0, 1)]], [[(0, 2)]])
        for read, one, other in (
            (read_row, "0-1 2*(3- 4*())", "0-1"), (read_table, "0:1 3:4", "0:0"), (read_stretches, "0-1 4-5", "0-"),
            (read_lot, "0-1 0-1", "0-"), (read_shelf, "0:1", "2:0"), (read_row, "", "0-1"), (read_lot, "", "0-1"),
        ):
            first = read(one)
            kept = repr(first)
            spoil(first)
            self.assertEqual(repr(read(one)), kept)
            self.assertNotEqual(read(other), read(one))
