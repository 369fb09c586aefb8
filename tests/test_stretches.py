"""Points 28 and 29: what the people of a row say of the company."""

import random
import unittest

from boastrow.errors import NoPlace, NoRow, NoWords
from boastrow.stretches import changes, lot_of, says_of, when
from tests.helper import (
    BIG, GREATEST, WRONG_ROWS, Like, check_refusals, check_stretches, holds, in_stretches, long_row, near, numbers_of,
    some_rows, stretches_where, walked, wrong_places,
)

ROW = [(1, 2), (0, 0), (3, None), (2, 5)]
REACH = 30


def ends_in(lot):
    """All numbers that stand in the stretches of a lot."""
    return [number for stretch in lot if stretch is not None for number in stretch if number is not None]


class Says(unittest.TestCase):
    def test_by_hand(self):
        self.assertEqual(lot_of([(0, 0), (0, 0)]), [None, (0, 0)])
        self.assertEqual(lot_of([(2, 4), (0, None)]), [(1, 3), (0, None)])
        self.assertEqual(lot_of([(2, 2), (1, 3), (1, 1)]), [None, (1, 3), (1, 1)])
        self.assertEqual(lot_of(ROW), [(0, 1), (0, 0), (2, None), (2, 5)])

    def test_nobody(self):
        self.assertEqual((lot_of([]), lot_of(())), ([], []))

    def test_against_the_words_of_each_company(self):
        never = endless = 0
        for row in some_rows(281, 150, 8, 9):
            told = [walked(row, c)[0] for c in range(REACH)]
            lot = lot_of(row)
            self.assertIsInstance(lot, list)
            self.assertEqual((lot_of(tuple(row)), len(lot)), (lot, len(row)))
            for place in range(len(row)):
                for given in (row, tuple(row)):
                    self.assertEqual(says_of(given, place), lot[place])
                found = stretches_where([told[c][place] for c in range(REACH)])
                self.assertEqual(lot[place], found[0] if found else None)
                self.assertLessEqual(len(found), 1)
                never += lot[place] is None
                endless += lot[place] is not None and lot[place][1] is None
        self.assertTrue(never and endless)

    def test_thirty_figures_and_two_hundred_people(self):
        for row in some_rows(282, 30, 8, GREATEST) + [long_row(283, 150), long_row(284, GREATEST), [(BIG, BIG)] * 200]:
            lot = lot_of(row)
            self.assertEqual([says_of(row, place) for place in range(len(row))], lot)
            for company in near(ends_in(lot)[::1 + len(row) // 10] + numbers_of(row)[:5], 1) + [GREATEST]:
                self.assertEqual([holds(stretch, company) for stretch in lot], walked(row, company)[0])

    def test_who_says_a_total_that_never_comes(self):
        for many in (1, 7, BIG):
            self.assertEqual(lot_of([(many, many), (many, many + 5)]), [None, (many, many + 5)])
            self.assertIsNone(says_of([(many, many), (many, None)], 0))

    def test_refused(self):
        check_refusals(self, says_of, [ROW, 3], [(WRONG_ROWS, NoRow), (wrong_places(4), NoPlace)])
        check_refusals(self, lot_of, [ROW], [(WRONG_ROWS, NoRow)])
        with self.assertRaises(NoPlace):
            says_of([], 0)


class Changes(unittest.TestCase):
    def test_by_hand(self):
        self.assertEqual(changes([]), [(0, [])])
        self.assertEqual(changes(()), [(0, [])])
        self.assertEqual(changes([(0, None)]), [(0, [True])])
        self.assertEqual(changes([(3, 3), (3, 4)]), [(0, [False, False]), (3, [False, True]), (5, [False, False])])

    def test_against_each_company(self):
        for row in some_rows(285, 150, 8, 9):
            told = [walked(row, c)[0] for c in range(REACH)]
            wanted = [(c, told[c]) for c in range(REACH) if c == 0 or told[c] != told[c - 1]]
            self.assertEqual(changes(row), wanted)
            self.assertEqual(changes(tuple(row)), wanted)

    def test_far_out(self):
        for row in some_rows(286, 20, 8, GREATEST) + [long_row(287, 300), long_row(288, GREATEST)]:
            told = changes(row)
            self.assertEqual(told[0][0], 0)
            for (c, words), (later, others) in zip(told, told[1:]):
                self.assertLess(c, later)
                self.assertNotEqual(words, others)
            for c, words in told[::1 + len(told) // 20]:
                self.assertIsInstance(words, list)
                self.assertTrue(all(word is True or word is False for word in words))
                self.assertEqual(words, walked(row, c)[0])
            for (_, words), (c, _) in list(zip(told, told[1:]))[::1 + len(told) // 20]:
                self.assertEqual(words, walked(row, c - 1)[0])
            self.assertEqual(told[-1][1], walked(row, told[-1][0] + GREATEST)[0])

    def test_the_lists_are_the_askers_own(self):
        told = changes(ROW)
        told[0][1][0] = "spoiled"
        self.assertEqual(changes(ROW)[0], (0, [True, True, False, False]))
        self.assertEqual(len({id(words) for _, words in told}), len(told))

    def test_refused(self):
        check_refusals(self, changes, [ROW], [(WRONG_ROWS, NoRow)])


class When(unittest.TestCase):
    def test_each_wish_of_words(self):
        chance = random.Random(289)
        many = 0
        for row in some_rows(290, 150, 6, 8):
            told = [walked(row, c)[0] for c in range(REACH)]
            wishes = [[chance.choice([True, False, None, None]) for _ in row] for _ in range(20)]
            for words in wishes + [[None] * len(row), [True] * len(row), [False] * len(row)]:
                good = [all(want is None or want is word for want, word in zip(words, told[c])) for c in range(REACH)]
                for given in (row, tuple(row)):
                    self.assertEqual(when(given, words), stretches_where(good))
                many += len(when(row, words)) > 1
        self.assertTrue(many)

    def test_as_changes_tells(self):
        for row in some_rows(291, 30, 7, 8) + some_rows(292, 10, 7, GREATEST) + [long_row(293, 150)]:
            told = changes(row)
            beyond = [c for c, _ in told[1:]] + [told[-1][0] + GREATEST]
            for _, words in told[:30]:
                found = when(row, words)
                check_stretches(self, found)
                for (c, others), later in zip(told, beyond):
                    self.assertEqual(in_stretches(found, c), others == words)
                    self.assertEqual(in_stretches(found, later - 1), others == words)

    def test_far_out(self):
        self.assertEqual(when([(BIG, GREATEST)], [False]), [(0, BIG - 1), (GREATEST + 1, None)])
        self.assertEqual(when([(BIG, GREATEST)], [True]), [(BIG, GREATEST)])
        self.assertEqual(when([(BIG, BIG)] * 200, [None] * 199 + [False]), [(0, BIG - 1), (BIG + 1, None)])
        row = [(number * 10 ** 20, number * 10 ** 20) for number in range(1, 201)]
        self.assertEqual(len(when(row, [False] * 200)), 201)

    def test_all_and_none(self):
        self.assertEqual(when([], []), [(0, None)])
        self.assertEqual(when((), []), [(0, None)])
        self.assertEqual(when(ROW, [None] * 4), [(0, None)])
        self.assertEqual(when([(0, None)], [False]), [])
        self.assertEqual(when([(3, 3), (3, 4)], [True, None]), [])
        self.assertEqual(when([(3, 3), (3, 4)], [False, None]), [(0, None)])

    def test_refused(self):
        wrongs = [
            None, 0, True, "", "TFTF", {}, set(), (), (True, False, None, True), [], [True] * 3, [True] * 5, [None] * 5,
            [True, False, True, 1], [0, None, None, None], [None, None, "True", None], [None, [], None, None],
            [[True], [], [], []], [True, True, True, Like()], [1.0, None, None, None], object(),
        ]
        check_refusals(self, when, [ROW, [True, None, False, True]], [(WRONG_ROWS, NoRow), (wrongs, NoWords)])
        for wrong in (None, (), [None], "", {}):
            with self.assertRaises(NoWords):
                when([], wrong)
