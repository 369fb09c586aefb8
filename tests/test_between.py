"""Points 49, 53, 54, 55 and 61: stepping in between two rows, by their tables."""

import unittest

from boastrow.between import front_first, needed, table_between, window
from boastrow.errors import NoNumber, NoTable, TooMany
from boastrow.steps import step_between
from boastrow.tables import is_rows, joined, table_of
from boastrow.wished import how_few
from tests.helper import (
    BIG, FALLING, GREATEST, WRONG_NUMBERS, WRONG_TABLES, check_refusals, long_row, long_table, many_in, near, some_rows,
    some_tables,
)

NOBODY = [(0, 0)]
REACH = 60


def sums(table, reach=REACH):
    """The totals of the companies, one by one."""
    return [c + many_in(table, c) for c in range(reach)]


def parts(seed, count, people=4, top=6):
    """Rows put together: tables of a front, of those between, of a back, and of all."""
    rows = some_rows(seed, 3 * count, people, top)
    out = []
    for front, between, back in zip(rows, rows[count:], rows[2 * count:]):
        out.append([table_of(row) for row in (front, between, back, front + between + back)])
    return out


def wild(seed, count, steps=5, gap=3):
    """Three tables of which nothing is known; the last may fall by two or more."""
    tables = some_tables(seed, 3 * count, steps, gap)
    out = []
    for front, back, wished in zip(tables, tables[count:], tables[2 * count:]):
        if len(out) % 9 == 0 and len(wished) > 1:
            wished = wished[:-1] + [(wished[-1][0], wished[-2][1] + 7), (wished[-1][0] + 2, 1)]
        out.append([front, back, wished])
    return out


def nearly(seed, count, people=4, top=6):
    """Three tables, the last one as of rows put together, but for some step."""
    out = []
    for at, (front, _, back, wished) in enumerate(parts(seed, count, people, top)):
        turned = list(wished)
        c, many = turned[at % len(turned)]
        turned[at % len(turned)] = (c, many + 1)
        turned = [turned[0]] + [step for ahead, step in zip(turned, turned[1:]) if step[1] != ahead[1]]
        out.append([front, back, turned])
    return out


def windows_slowly(front, back, wished):
    """The window of each company, searched number by number."""
    led = sums(front, 3 * REACH)
    out = []
    for total in sums(wished):
        good = [number for number in range(3 * REACH) if led[number] == total]
        out.append((good[0], good[-1]) if good else None)
    return out


def stands_against(front, back, wished):
    """Whether one of the papers stands, counted company by company."""
    front, back, wished = [sums(table, 2 * REACH) for table in (front, back, wished)]
    for c in range(REACH):
        if wished[c + 1] < wished[c] or wished[c] < front[back[c]]:
            return True
        if (back[c] == back[c + 1] and wished[c] != wished[c + 1]) or wished[c] not in front:
            return True
    return False


def made_slowly(front, back, wished, reach):
    """What those who step in make of each number, as point 54 has it, number by number."""
    windows = windows_slowly(front, back, wished)
    totals = sums(back)
    out = []
    for number in range(reach):
        least = max([number] + [windows[c][0] for c in range(REACH) if totals[c] <= number])
        most = min(windows[c][1] for c in range(REACH) if totals[c] >= number)
        assert least <= most
        out.append(min(max(out[-1] + 1 if out else 0, least), most))
    return out


class Window(unittest.TestCase):
    def test_by_hand(self):
        self.assertEqual(window(NOBODY, NOBODY, [(0, 3)], 4), (7, 7))
        # The front comes to 4 of 2, 3 and 4, and never to 2 or 3.
        front = [(0, 0), (2, 2), (3, 1), (4, 0)]
        self.assertEqual(window(front, NOBODY, [(0, 3)], 1), (2, 4))
        self.assertIsNone(window(front, NOBODY, [(0, 1)], 1))
        self.assertEqual(window(front, NOBODY, [(0, 1)], 0), (1, 1))

    def test_against_all_numbers(self):
        none = wide = 0
        for front, back, wished in wild(531, 120) + nearly(532, 60):
            wanted = windows_slowly(front, back, wished)
            for company in range(20):
                self.assertEqual(window(front, back, wished, company), wanted[company])
                none += wanted[company] is None
                wide += wanted[company] is not None and wanted[company][1] > wanted[company][0]
        self.assertTrue(none and wide)

    def test_with_papers_that_stand(self):
        self.assertEqual(window([(0, 1)], [(0, 9)], [(0, 4), (2, 1)], 1), (4, 4))
        self.assertEqual(window([(0, 1)], [(0, 9)], [(0, 4), (2, 1)], 2), (2, 2))
        self.assertIsNone(window([(0, 1)], [(0, 9)], [(0, 0)], 0))

    def test_far_out(self):
        front = [(0, 0), (BIG, 300)] + [(BIG + at, 300 - at) for at in range(1, 300)]
        for company in (0, BIG - 1):
            self.assertEqual(window(front, NOBODY, NOBODY, company), (company, company))
        self.assertIsNone(window(front, NOBODY, NOBODY, BIG))
        self.assertEqual(window(front, NOBODY, [(0, 300)], BIG), (BIG, BIG + 299))
        self.assertEqual(window(front, NOBODY, [(0, 300)], GREATEST), (GREATEST + 299, GREATEST + 299))
        front = long_table(400, BIG, 10 ** 26)
        for company in near([c for c, _ in front[::40]], 1):
            total = company + many_in(front, company)
            least, greatest = window(front, NOBODY, front, company)
            self.assertTrue(least <= company <= greatest <= least + 1)
            for number in (least - 1, least, greatest, greatest + 1):
                self.assertIs(number >= 0 and number + many_in(front, number) == total, least <= number <= greatest)

    def test_refused(self):
        rows, tables = (WRONG_TABLES + FALLING, NoTable), (WRONG_TABLES, NoTable)
        check_refusals(self, window, [NOBODY, [(0, 1)], FALLING[0], 3], [rows, rows, tables, (WRONG_NUMBERS, NoNumber)])


class TableBetween(unittest.TestCase):
    def test_by_hand(self):
        self.assertEqual(table_between(NOBODY, NOBODY, NOBODY), NOBODY)
        self.assertEqual(table_between(NOBODY, NOBODY, [(0, 3), (4, 2)]), [(0, 3), (4, 2)])
        self.assertEqual(table_between(NOBODY, [(0, 2)], [(0, 3)]), [(0, 0), (2, 1)])
        self.assertEqual(table_between([(0, 2)], NOBODY, [(0, 3)]), [(0, 1)])
        self.assertIsNone(table_between([(0, 2)], NOBODY, [(0, 1)]))

    def check(self, front, back, wished):
        """Whether somebody does; what is told is as number by number, and does."""
        told = table_between(front, back, wished)
        if stands_against(front, back, wished):
            self.assertIsNone(told)
            self.assertIsNone(needed(front, back, wished))
            return False
        self.assertTrue(is_rows(told))
        self.assertEqual(sums(told, 30), made_slowly(front, back, wished, 30))
        self.assertEqual(joined(front, joined(told, back)), wished)
        self.assertEqual(needed(front, back, wished), how_few(told))
        return True

    def test_of_parts_put_together(self):
        for front, between, back, wished in parts(541, 200) + parts(542, 60, 8, 9) + parts(543, 100, 2, 3):
            self.assertTrue(self.check(front, back, wished))
            self.assertLessEqual(needed(front, back, wished), how_few(between))

    def test_nobody_in_front_or_behind(self):
        for front, between, back, _ in parts(544, 60):
            self.assertTrue(self.check(NOBODY, back, joined(between, back)))
            self.assertTrue(self.check(front, NOBODY, joined(front, between)))
            self.assertEqual(table_between(NOBODY, NOBODY, between), between)
            self.assertEqual(needed(front, back, joined(front, back)), 0)

    def test_of_any_three(self):
        seen = [self.check(*tables) for tables in wild(545, 400, 3, 2) + nearly(546, 300)]
        self.assertTrue(seen.count(True) > 30 and seen.count(False) > 30)

    def test_it_goes_down_ahead_of_where_it_must(self):
        # The totals behind are 0, 1, 2, 9, 10: what is added to 2 is given up in between, as late as may be.
        back = [(0, 0), (3, 6)]
        self.assertEqual(table_between(NOBODY, back, [(0, 4), (3, 7)]), [(0, 4), (7, 3), (8, 2), (9, 1)])
        self.assertEqual(table_between(NOBODY, back, [(0, 4), (3, 6)])[-1], (9, 0))
        self.assertTrue(self.check(NOBODY, back, [(0, 4), (3, 7), (4, 8)]))

    def test_two_hundred_people(self):
        for seed, top in ((547, 300), (548, 900), (549, GREATEST)):
            rows = [long_row(seed + 10 * at, top, people) for at, people in enumerate((60, 80, 60))]
            front, between, back = [table_of(row) for row in rows]
            wished = table_of(rows[0] + rows[1] + rows[2])
            told = table_between(front, back, wished)
            self.assertEqual(joined(front, joined(told, back)), wished)
            self.assertLessEqual(how_few(told), 80)
            self.assertEqual(needed(front, back, wished), how_few(told))

    def test_four_hundred_steps(self):
        for start, gap in ((0, 1), (BIG, 10 ** 26)):
            back = long_table(400, start, gap)
            wished = [(c, many + 5) for c, many in back]
            told = table_between(NOBODY, back, wished)
            self.assertEqual((told, needed(NOBODY, back, wished)), ([(0, 5)], 5))
            told = table_between(back, NOBODY, joined(back, long_table(100, start + 7, gap)))
            self.assertEqual(joined(back, told), joined(back, long_table(100, start + 7, gap)))
            self.assertLessEqual(how_few(told), 100)

    def test_refused(self):
        rows, tables = (WRONG_TABLES + FALLING, NoTable), (WRONG_TABLES, NoTable)
        for call in (table_between, needed, front_first):
            check_refusals(self, call, [NOBODY, [(0, 1)], [(0, 2)]], [rows, rows, tables])


class Needed(unittest.TestCase):
    def test_of_any_size(self):
        self.assertEqual(needed(NOBODY, NOBODY, [(0, BIG)]), BIG)
        self.assertEqual(needed([(0, 7)], [(0, 8)], [(0, GREATEST)]), GREATEST - 15)
        # What is added to the totals below 10 is all given up behind them, and then added anew.
        back = [(0, 0), (10, GREATEST)]
        self.assertEqual(needed(NOBODY, back, [(0, BIG), (10, GREATEST)]), BIG)
        self.assertEqual(needed(NOBODY, back, [(0, BIG), (10, GREATEST), (12, GREATEST + 5)]), BIG + 5)
        self.assertEqual(needed(NOBODY, back, [(0, BIG), (10, GREATEST + BIG - 3)]), BIG)
        self.assertEqual(needed(NOBODY, back, [(0, BIG), (10, GREATEST + BIG + 3)]), BIG + 3)
        for many in (3, 7, 200):
            told = table_between(NOBODY, [(0, 0), (10, 500)], [(0, many), (10, 500)])
            self.assertEqual(told, [(0, many)] + [(510 - many + at, many - at) for at in range(1, many + 1)])

    def test_none_where_nobody_does(self):
        for front, back, wished in (
            (NOBODY, NOBODY, [(0, BIG), (1, 0)]), (NOBODY, [(0, BIG)], [(0, BIG - 1)]),
            (NOBODY, [(0, 1), (1, 0)], [(0, BIG)]), ([(0, 0), (3, 5)], NOBODY, [(0, 4)]),
        ):
            self.assertIsNone(needed(front, back, wished))
            self.assertIsNone(table_between(front, back, wished))

    def test_too_many(self):
        for front, back, wished, many in (
            (NOBODY, NOBODY, [(0, 301)], 301), ([(0, 5)], [(0, 6)], [(0, GREATEST)], GREATEST - 11),
            (NOBODY, NOBODY, long_table(302), 302), (NOBODY, [(0, 0), (10, GREATEST)], [(0, BIG), (10, GREATEST)], BIG),
        ):
            self.assertEqual(needed(front, back, wished), many)
            for call in (table_between, step_between):
                with self.assertRaises(TooMany) as caught:
                    call(front, back, wished)
                self.assertEqual(caught.exception.many, many)
        self.assertEqual(table_between(NOBODY, NOBODY, [(0, 300)]), [(0, 300)])
        back = [(0, 0), (10, BIG)]
        self.assertEqual(how_few(table_between(NOBODY, back, [(0, 300), (10, BIG)])), 300)
        self.assertEqual(len(table_between(NOBODY, back, [(0, 300), (10, BIG)])), 301)


class FrontFirst(unittest.TestCase):
    def test_against_needed_of_both(self):
        seen = {}
        for front, back, wished in wild(611, 200, 3, 2) + nearly(612, 200) + [
            [front, back, wished] for front, _, back, wished in parts(613, 200)
        ]:
            between = needed(front, back, wished)
            ahead = needed(NOBODY, joined(front, back), wished)
            told = front_first(front, back, wished)
            seen[told] = seen.get(told, 0) + 1
            if between is None or ahead is None:
                self.assertIsNone(told)
            else:
                self.assertEqual(told, (between > ahead) - (between < ahead))
        self.assertEqual(sorted(seen, key=str), [-1, 0, 1, None])

    def test_of_any_size(self):
        # From BIG on the front has BIG more, whom those who step in behind it need not be.
        self.assertEqual(front_first(NOBODY, NOBODY, [(0, BIG)]), 0)
        self.assertEqual(front_first([(0, 0), (BIG, BIG)], NOBODY, [(0, 0), (1, GREATEST)]), -1)
        self.assertIsNone(front_first([(0, 0), (BIG, BIG)], NOBODY, [(0, BIG)]))
