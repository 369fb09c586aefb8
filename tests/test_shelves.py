"""Points 20, 21 and 24: shelves, rows' shelves, and deeds from shelf to shelf."""

import itertools
import random
import unittest

from boastrow.errors import NoBook, NoDeed, NoNumber, NoRow, NoShelf, NoTable, TooMany
from boastrow.shelves import (
    book, books_to, deeds_between, is_shelf, led, shelf_by, shelf_of, table_of_shelf,
)
from boastrow.tables import table_of, total_by
from tests.helper import (
    BIG, FALLING, GREATEST, WRONG_NUMBERS, WRONG_ROWS, WRONG_SHELVES, WRONG_TABLES, Like, check_refusals,
    long_row, long_table, near, numbers_of, some_rows, some_tables, walked_total,
)

GOOD = [[], [(0, 1)], [(1, 0)], [(0, 3), (1, 2), (2, 0), (7, 5)], [(5, 9)], [(BIG, 0)], [(0, BIG), (GREATEST, BIG)]]
WRONG_DEEDS = [
    None, 0, True, "", "ab", {}, set(), (), (("double", 1),), ("double", 1), ["double", 1], [None], [["double", 1]],
    [()], [("double",)], [("double", 1, 1)], [("strike", 0)], [("twice", 1)], [("Double", 1)], [(1, "double")],
    [("double", -1)], [("strike", -1)], [("double", True)], [("strike", True)], [("double", None)], [("double", "1")],
    [("double", 1.0)], [(b"double", 1)], [(None, 1)], [([], 1)], [("double", 1), ("strike", 0)],
    [("double", 1), ["strike", 1]], [("enter", (0, 1))], [("undo",)], [(Like(), 1)], object(),
]


def laid_out(shelf, reach):
    """The books with numbers up to reach, one by one."""
    copies = dict(shelf)
    return [number for number in range(reach + 1) for _ in range(copies.get(number, int(number > 0)))]


def some_shelves(seed, count, most=8, top=12):
    """So many shelves, the same ones for the same seed."""
    chance = random.Random(seed)
    out = []
    for _ in range(count):
        numbers = sorted(chance.sample(range(top), chance.randint(0, min(most, top))))
        copies = [chance.choice([0, 0, 1, 2, 3]) for _ in numbers]
        out.append([(at, many) for at, many in zip(numbers, copies) if many != int(at > 0)])
    return out


def long_shelf(many, start, gap):
    """A shelf told by so many tuples."""
    return [(start + at * gap, 2 if at % 2 else 0) for at in range(1, many + 1)]


class Shelves(unittest.TestCase):
    def test_is_shelf(self):
        for thing in GOOD + some_shelves(151, 50) + [long_shelf(300, 5, 1), long_shelf(300, BIG, 10 ** 20)]:
            self.assertIs(is_shelf(thing), True, thing)
        for thing in WRONG_SHELVES:
            self.assertIs(is_shelf(thing), False, thing)

    def test_the_plain_one(self):
        for m in (0, 1, 2, 9, BIG, GREATEST):
            self.assertEqual(book([], m), m)
            self.assertEqual(books_to([], m), m)

    def test_against_books_laid_out(self):
        for shelf in some_shelves(152, 200) + GOOD[:5]:
            books = laid_out(shelf, 60)
            self.assertEqual(book(shelf, 0), 0)
            for m in range(1, 50):
                self.assertEqual(book(shelf, m), books[m - 1])
            for number in range(50):
                self.assertEqual(books_to(shelf, number), len([one for one in books if one <= number]))

    def test_far_out(self):
        shelf = [(0, 2), (1, 0), (BIG, 0), (BIG + 2, BIG)]
        self.assertEqual([book(shelf, m) for m in range(5)], [0, 0, 0, 2, 3])
        self.assertEqual([book(shelf, BIG + more) for more in range(-1, 4)],
                         [BIG - 2, BIG - 1, BIG + 1, BIG + 2, BIG + 2])
        self.assertEqual([book(shelf, 2 * BIG + more) for more in range(0, 4)],
                         [BIG + 2, BIG + 2, BIG + 3, BIG + 4])
        self.assertEqual([books_to(shelf, BIG + more) for more in range(-1, 4)],
                         [BIG, BIG, BIG + 1, 2 * BIG + 1, 2 * BIG + 2])
        self.assertEqual(books_to(shelf, GREATEST), GREATEST + BIG - 1)

    def test_three_hundred_numbers(self):
        for start, gap in ((3, 2), (BIG, 10 ** 20)):
            shelf = long_shelf(300, start, gap)
            for number in near([at for at, _ in shelf], 1):
                count = number + sum(1 if many else -1 for at, many in shelf if at <= number)
                self.assertEqual(books_to(shelf, number), count)
                self.assertLessEqual(book(shelf, count), number)
                self.assertGreater(book(shelf, count + 1), number)

    def test_refused(self):
        check_refusals(self, book, [[(0, 1)], 0], [(WRONG_SHELVES, NoShelf), (WRONG_NUMBERS, NoBook)])
        check_refusals(self, books_to, [[(0, 1)], 0], [(WRONG_SHELVES, NoShelf), (WRONG_NUMBERS, NoNumber)])


class OfRows(unittest.TestCase):
    def test_by_hand(self):
        self.assertEqual(shelf_of([]), [])
        self.assertEqual(shelf_of([(0, 0)]), [(0, 1), (1, 0)])
        self.assertEqual(shelf_of([(2, 4)]), [(2, 2), (5, 0)])
        self.assertEqual(shelf_by([(0, 3), (1, 2), (2, 9)]), [(0, 3), (1, 0), (2, 8)])
        self.assertEqual(table_of_shelf([(0, 3), (1, 0), (2, 8)]), [(0, 3), (1, 2), (2, 9)])
        self.assertEqual(table_of_shelf([]), [(0, 0)])

    def test_against_totals(self):
        for row in some_rows(153, 100, 7, 8):
            shelf = shelf_of(row)
            self.assertTrue(is_shelf(shelf))
            self.assertEqual(shelf_of(tuple(row)), shelf)
            self.assertEqual(shelf_by(table_of(row)), shelf)
            self.assertEqual(table_of_shelf(shelf), table_of(row))
            totals = [walked_total(row, company) for company in range(25)]
            for company in range(25):
                self.assertEqual(books_to(shelf, company), totals[company])
            for m in range(1, 20):
                self.assertEqual(book(shelf, m), [c for c in range(25) if totals[c] >= m][0])

    def test_tables_and_back(self):
        for table in some_tables(154, 150, 12, 4) + [long_table(400), long_table(400, BIG, 10 ** 26)]:
            shelf = shelf_by(table)
            self.assertTrue(is_shelf(shelf))
            self.assertEqual(table_of_shelf(shelf), table)

    def test_long_and_of_thirty_figures(self):
        for row in (long_row(155, 150), long_row(156, GREATEST), [(BIG, BIG), (BIG, GREATEST)], [(7, 7)] * 200):
            shelf = shelf_of(row)
            self.assertEqual(table_of_shelf(shelf), table_of(row))
            for company in near(numbers_of(row)[:20], 1):
                self.assertEqual(books_to(shelf, company), walked_total(row, company))

    def test_of_shelves_that_are_no_rows(self):
        rows = others = 0
        for shelf in some_shelves(157, 200):
            short = [c for c in range(30) if len(laid_out(shelf, c)) < c]
            if short:
                others += 1
                with self.assertRaises(NoTable):
                    table_of_shelf(shelf)
            else:
                rows += 1
                table = table_of_shelf(shelf)
                self.assertEqual([total_by(table, c) for c in range(30)], [books_to(shelf, c) for c in range(30)])
                self.assertEqual(shelf_by(table), shelf)
        self.assertTrue(rows and others)

    def test_what_is_made_up_for_too_late_is_no_rows(self):
        for shelf in ([(1, 0), (2, 2)], [(0, 1), (3, 0), (4, 0), (5, 9)], [(BIG, 0), (BIG + 1, 5)]):
            with self.assertRaises(NoTable):
                table_of_shelf(shelf)
        self.assertEqual(table_of_shelf([(0, 1), (3, 0)]), [(0, 1), (3, 0)])

    def test_refused(self):
        check_refusals(self, shelf_of, [[(0, 0)]], [(WRONG_ROWS, NoRow)])
        check_refusals(self, shelf_by, [[(0, 0)]], [(WRONG_TABLES + FALLING, NoTable)])
        check_refusals(self, table_of_shelf, [[(0, 1)]], [(WRONG_SHELVES, NoShelf)])


def led_slowly(shelf, deeds, reach):
    """The books up to reach, as they stand behind the deeds."""
    books = laid_out(shelf, reach + len(deeds) + 2)
    for word, m in deeds:
        if word == "strike":
            del books[m - 1]
        else:
            books.insert(m, books[m - 1] if m else 0)
    return [number for number in books if number <= reach]


class Deeds(unittest.TestCase):
    def test_led_by_hand(self):
        self.assertEqual(led([], []), [])
        self.assertEqual(led([], [("double", 0)]), [(0, 1)])
        self.assertEqual(led([], [("double", 3), ("strike", 1)]), [(1, 0), (3, 2)])
        self.assertEqual(led([], [("double", 3), ("strike", 4)]), [])
        self.assertEqual(led([(0, 2)], [("strike", 1), ("strike", 1), ("strike", 1)]), [(1, 0)])
        self.assertEqual(led([(0, 2)], [("double", 2)]), [(0, 3)])

    def test_led_against_books_laid_out(self):
        chance = random.Random(158)
        for shelf in some_shelves(159, 200):
            deeds = []
            for _ in range(chance.randint(0, 9)):
                word = chance.choice(["double", "strike"])
                deeds.append((word, chance.randint(int(word == "strike"), 15)))
            told = led(shelf, deeds)
            self.assertTrue(is_shelf(told))
            self.assertEqual(laid_out(told, 30), led_slowly(shelf, deeds, 30))

    def test_three_hundred_deeds(self):
        self.assertEqual(led([], [("double", BIG)] * 300), [(BIG, 301)])
        self.assertEqual(led([], [("strike", BIG)] * 300), [(BIG + at, 0) for at in range(300)])
        self.assertEqual(led(long_shelf(300, BIG, 5), [("double", 0)] * 300), [(0, 300)] + long_shelf(300, BIG, 5))

    def test_led_refused(self):
        check_refusals(self, led, [[(0, 1)], [("double", 0)]], [(WRONG_SHELVES, NoShelf), (WRONG_DEEDS, NoDeed)])

    def test_from_each_to_each(self):
        shelves = some_shelves(160, 60, 5, 5)
        kinds = set()
        for one, other in itertools.product(shelves, shelves):
            told = deeds_between(one, other)
            had, wanted = [[dict(shelf).get(at, int(at > 0)) for at in range(5)] for shelf in (one, other)]
            gone = [at for at in range(1, 5) if not had[at] and wanted[at]]
            kinds.add(told[0])
            self.assertIsInstance(told, tuple)
            if gone:
                self.assertEqual(told, ("gone", gone[0]))
            else:
                self.assertEqual(told[0], "deeds")
                self.assertEqual(len(told[1]), sum(abs(a - b) for a, b in zip(had, wanted)))
                self.assertEqual(led(one, told[1]), other)
        self.assertEqual(kinds, {"deeds", "gone"})

    def test_the_same_shelf(self):
        for shelf in GOOD:
            self.assertEqual(deeds_between(shelf, list(shelf)), ("deeds", []))

    def test_far_out(self):
        one = long_shelf(300, BIG, 10 ** 20)
        other = [(at, many) for at, many in one if many == 0]
        kind, deeds = deeds_between(one, other)
        self.assertEqual((kind, len(deeds)), ("deeds", 150))
        self.assertEqual(led(one, deeds), other)
        self.assertEqual(deeds_between(other, []), ("gone", BIG + 2 * 10 ** 20))
        self.assertEqual(deeds_between([], [(GREATEST, 301)])[1], [("double", GREATEST)] * 300)

    def test_too_many(self):
        for one, other, many in (
            ([], [(0, 301)], 301), ([], [(5, 302)], 301), ([(5, 400)], [], 399), ([(0, 100)], [(7, 202)], 301),
            ([(0, BIG)], [(0, GREATEST)], GREATEST - BIG), ([], [(at, 0) for at in range(1, 302)], 301),
        ):
            with self.assertRaises(TooMany) as caught:
                deeds_between(one, other)
            self.assertEqual(caught.exception.many, many)
        for one, other in (([], [(0, 300)]), ([(0, 100)], [(7, 201)]), ([], [(at, 0) for at in range(1, 301)])):
            kind, deeds = deeds_between(one, other)
            self.assertEqual((kind, len(deeds), led(one, deeds)), ("deeds", 300, other))

    def test_gone_goes_ahead_of_too_many(self):
        self.assertEqual(deeds_between([(4, 0), (6, 0)], [(0, BIG), (6, 0)]), ("gone", 4))
        self.assertEqual(deeds_between([(4, 0), (6, 0)], [(4, 0), (6, BIG)]), ("gone", 6))
        self.assertEqual(deeds_between([(0, 900), (4, 0), (6, 0)], []), ("gone", 4))

    def test_of_0_there_need_be_no_book(self):
        self.assertEqual(deeds_between([], [(0, 2)]), ("deeds", [("double", 0)] * 2))

    def test_between_refused(self):
        shelves = (WRONG_SHELVES, NoShelf)
        check_refusals(self, deeds_between, [[(0, 1)], [(0, 2)]], [shelves, shelves])
