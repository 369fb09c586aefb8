"""Points 22 and 23: the class Shelf."""

import random
import unittest

from boastrow.errors import NoBook, NoneYet, NoNumber, NoSaying, NoShelf
from boastrow.rows import words
from boastrow.shelves import Shelf, book, books_to, is_shelf, led, shelf_of
from tests.helper import (
    BIG, GREATEST, WRONG_NUMBERS, WRONG_SAYINGS, WRONG_SHELVES, Like, long_row, some_rows, some_saying,
    walked,
)
from tests.test_shelves import laid_out, some_shelves


class Made(unittest.TestCase):
    def test_the_plain_one(self):
        for shelf in (Shelf(), Shelf(shelf=None), Shelf(shelf=[])):
            self.assertEqual((shelf.told(), len(shelf)), ([], 0))
            self.assertEqual((shelf.number_of(0), shelf.number_of(5), shelf.many_to(5)), (0, 5, 5))

    def test_one_that_is_handed_in(self):
        for given in some_shelves(171, 40):
            shelf = Shelf(shelf=given)
            self.assertEqual((shelf.told(), len(shelf)), (given, 0))
            for m in list(range(30)) + [BIG, GREATEST]:
                self.assertEqual(shelf.number_of(m), book(given, m))
                self.assertEqual(shelf.many_to(m), books_to(given, m))

    def test_what_is_handed_in_or_told_changes_nothing(self):
        given = [(0, 1), (4, 0)]
        shelf = Shelf(shelf=given)
        given.append((9, 9))
        self.assertEqual(shelf.told(), [(0, 1), (4, 0)])
        told = shelf.told()
        told.clear()
        self.assertEqual(shelf.told(), [(0, 1), (4, 0)])
        told = shelf.told()
        shelf.double(0)
        self.assertEqual(told, [(0, 1), (4, 0)])
        self.assertEqual(given, [(0, 1), (4, 0), (9, 9)])

    def test_refused(self):
        for wrong in WRONG_SHELVES:
            if wrong is not None:
                with self.assertRaises(NoShelf):
                    Shelf(shelf=wrong)
        with self.assertRaises(TypeError):
            Shelf([])


class Done(unittest.TestCase):
    def test_double_and_strike(self):
        chance = random.Random(172)
        for given in some_shelves(173, 100):
            shelf = Shelf(shelf=given)
            deeds = []
            for _ in range(8):
                m = chance.randint(0, 14)
                if m and chance.random() < 0.5:
                    self.assertIsNone(shelf.strike(m))
                    deeds.append(("strike", m))
                else:
                    self.assertIsNone(shelf.double(m))
                    deeds.append(("double", m))
                self.assertEqual((shelf.told(), len(shelf)), (led(given, deeds), len(deeds)))

    def test_enter_by_hand(self):
        shelf = Shelf()
        self.assertEqual(shelf.enter((2, 4)), (2, 4))
        self.assertEqual(shelf.told(), [(2, 2), (5, 0)])
        self.assertEqual(shelf.enter((0, None)), (0, None))
        self.assertEqual(shelf.told(), [(0, 1), (2, 2), (5, 0)])
        # Ahead of the newcomer the total is 1, 2, 4, 5, 6, 6, 7.
        self.assertIsNone(shelf.enter((3, 3)))
        self.assertEqual(shelf.told(), [(0, 1), (2, 2), (5, 0)])
        self.assertEqual(shelf.enter((3, 4)), (2, 2))
        self.assertEqual(shelf.told(), [(0, 1), (2, 3), (3, 0), (5, 0)])
        self.assertEqual(len(shelf), 4)

    def test_enter_both_books_as_they_were(self):
        shelf = Shelf(shelf=[(3, 5)])
        self.assertIsNone(shelf.enter((4, 5)))
        self.assertEqual((shelf.told(), len(shelf)), ([(3, 5)], 1))
        self.assertEqual(shelf.enter((0, 0)), (0, 0))
        self.assertEqual(shelf.told(), [(0, 1), (1, 0), (3, 5)])

    def test_enter_as_a_row_does(self):
        nowhere = without_bound = 0
        for row in some_rows(174, 120, 8, 8):
            shelf = Shelf()
            for place in range(len(row) - 1, -1, -1):
                true = [c for c in range(40) if walked(row[place:], c)[0][0]]
                told = shelf.enter(row[place])
                if not true:
                    nowhere += 1
                    self.assertIsNone(told)
                else:
                    self.assertIsInstance(told, tuple)
                    without_bound += row[place][1] is None
                    self.assertEqual(told, (true[0], None if row[place][1] is None else true[-1]))
                self.assertEqual(shelf.told(), shelf_of(row[place:]))
                self.assertEqual(len(shelf), len(row) - place)
        self.assertTrue(nowhere and without_bound)

    def test_enter_a_shelf_that_is_no_rows(self):
        chance = random.Random(175)
        for given in some_shelves(176, 150):
            shelf = Shelf(shelf=given)
            saying = some_saying(chance, 10)
            least, most = saying
            told = shelf.enter(saying)
            true = [c for c in range(60) if books_to(given, c) >= least and (most is None or books_to(given, c) <= most)]
            self.assertEqual(told, (true[0], true[-1] if most is not None else None) if true else None)
            grown = [c for c in range(60) if shelf.many_to(c) != books_to(given, c)]
            self.assertEqual(grown, true)

    def test_two_hundred_people_of_thirty_figures(self):
        for row in (long_row(177, 150), long_row(178, GREATEST)):
            shelf = Shelf()
            for saying in reversed(row):
                shelf.enter(saying)
            self.assertEqual(shelf.told(), shelf_of(row))
            self.assertEqual(len(shelf), 200)
            self.assertEqual(shelf.many_to(BIG) - BIG, words(row, BIG).count(True))
            for _ in row:
                shelf.undo()
            self.assertEqual((shelf.told(), len(shelf)), ([], 0))

    def test_undo_each_kind(self):
        for given in some_shelves(179, 40):
            shelf = Shelf(shelf=given)
            seen = [shelf.told()]
            for deed, arg in (
                (shelf.double, 0), (shelf.double, 3), (shelf.strike, 1), (shelf.enter, (2, 4)), (shelf.enter, (0, None)),
                (shelf.strike, BIG), (shelf.enter, (BIG, BIG)), (shelf.enter, (1, 1)), (shelf.double, 1),
            ):
                deed(arg)
                seen.append(shelf.told())
            for many in range(9, 0, -1):
                self.assertEqual((shelf.told(), len(shelf)), (seen[many], many))
                self.assertIsNone(shelf.undo())
            self.assertEqual((shelf.told(), len(shelf)), (given, 0))
            with self.assertRaises(NoneYet):
                shelf.undo()
            self.assertEqual((shelf.told(), len(shelf)), (given, 0))

    def test_undo_of_what_changed_nothing(self):
        shelf = Shelf(shelf=[(3, 5)])
        shelf.double(0)
        shelf.enter((5, 5))
        shelf.undo()
        self.assertEqual((shelf.told(), len(shelf)), ([(0, 1), (3, 5)], 1))

    def test_deeds_behind_an_undo(self):
        shelf = Shelf()
        shelf.double(1)
        shelf.undo()
        shelf.double(2)
        self.assertEqual((shelf.told(), len(shelf)), ([(2, 2)], 1))
        shelf.undo()
        with self.assertRaises(NoneYet):
            shelf.undo()
        self.assertEqual(shelf.told(), [])

    def test_books_laid_out(self):
        shelf = Shelf(shelf=[(0, 2), (4, 0)])
        shelf.double(2)
        shelf.strike(5)
        self.assertEqual(laid_out(shelf.told(), 6), [0, 0, 0, 1, 3, 5, 6])
        self.assertEqual([shelf.number_of(m) for m in range(1, 8)], [0, 0, 0, 1, 3, 5, 6])


class Refused(unittest.TestCase):
    def test_all_stays_as_it_was(self):
        shelf = Shelf(shelf=[(2, 0)])
        shelf.double(1)
        for call, wrongs, error in (
            (shelf.double, WRONG_NUMBERS, NoBook), (shelf.strike, WRONG_NUMBERS + [0], NoBook),
            (shelf.number_of, WRONG_NUMBERS, NoBook), (shelf.many_to, WRONG_NUMBERS, NoNumber),
            (shelf.enter, WRONG_SAYINGS, NoSaying),
        ):
            for wrong in wrongs:
                with self.assertRaises(error):
                    call(wrong)
                self.assertEqual((shelf.told(), len(shelf)), ([(1, 2), (2, 0)], 1))
        shelf.undo()
        self.assertEqual((shelf.told(), len(shelf)), ([(2, 0)], 0))


class Equal(unittest.TestCase):
    def test_to_a_shelf_with_other_deeds(self):
        one, other = Shelf(), Shelf(shelf=[(2, 2)])
        self.assertFalse(one == other)
        self.assertTrue(one != other)
        one.double(2)
        self.assertTrue(one == other)
        self.assertFalse(one != other)
        self.assertNotEqual(len(one), len(other))
        other.strike(2)
        self.assertTrue(one != other)
        other.undo()
        one.enter((2, 2))
        one.undo()
        self.assertTrue(one == other)

    def test_to_nothing_else(self):
        shelf = Shelf(shelf=[(2, 2)])
        for other in ([(2, 2)], [], ((2, 2),), None, 0, "", object(), Like(), True):
            self.assertFalse(shelf == other)
            self.assertTrue(shelf != other)

    def test_to_itself_and_one_made_alike(self):
        for given in some_shelves(180, 40):
            shelf = Shelf(shelf=given)
            self.assertTrue(is_shelf(shelf.told()))
            self.assertTrue(shelf == shelf)
            self.assertTrue(shelf == Shelf(shelf=list(given)))
