"""Points 63 and 64: long rows, how many people they have, laid out, and who stands where."""

import copy
import unittest

from boastrow.errors import NoLong, NoPlace, TooMany
from boastrow.powers import is_long, laid_out, people_in, place_of, saying_at, which_at
from tests.helper import BIG, GREATEST, WRONG_NUMBERS, Like, check_refusals, long_row, wrong_places
from tests.long_helper import (
    TOO_LONG, WRONG_LONGS, deep_long, lay_by_hand, nested, some_longs, whose_by_hand, written_in,
)

LONG = [(0, 1), ("again", 3, [(2, None), ("again", 2, ((1, 1), (0, 0)))]), (5, 6)]
GOOD = [
    [], (), [(0, 0)], ((0, None), (3, 7)), LONG, tuple(LONG), [("again", 0, [])], (("again", GREATEST, ()),),
    [("again", 2, [(0, 1)]), ("again", 2, ((0, 1),))], nested(8, 2, [(0, 1)]), nested(8, 2, ()), nested(40, 1, [(2, 3)]),
    [("again", GREATEST, [(0, 1)])], [("again", 10 ** 15, [("again", 10 ** 14, [(0, 1)] * 9)])],
    [("again", 0, [("again", 10 ** 30, [(0, 1)])])], [("again", 0, TOO_LONG[0])], nested(8, GREATEST, []),
    [("again", GREATEST, [("again", 0, TOO_LONG[1]), ("again", GREATEST, [])]), ("again", GREATEST, [(BIG, BIG)])],
]


class IsLong(unittest.TestCase):
    def test_good_ones(self):
        for thing in GOOD + some_longs(631, 100) + [long_row(632, BIG), deep_long(633, 8, 20, BIG, 20)]:
            self.assertIs(is_long(thing), True)

    def test_all_sorts_of_other_things(self):
        for thing in WRONG_LONGS + [Like(), [Like()], [("again", 2, Like())], [("again", Like(), [])]]:
            self.assertIs(is_long(thing), False, thing)

    def test_the_fault_at_each_place(self):
        for at in range(200):
            long = long_row(634, 50)
            long[at] = ("again", 2, [long[at], (1, True)])
            self.assertIs(is_long(long), False)
            long[at] = ("again", 2, [(1, 2)])
            self.assertIs(is_long(long), True)

    def test_a_list_within_itself_is_none(self):
        for times in (0, 1, 2):
            long = [(0, 1)]
            long += [("again", times, long), ("again", times, long)]
            self.assertIs(is_long(long), False)


class People(unittest.TestCase):
    def test_by_hand(self):
        self.assertEqual([people_in(long) for long in GOOD[:9]], [0, 0, 1, 2, 17, 17, 0, 0, 4])
        self.assertEqual([people_in(long) for long in GOOD[9:]], [
            256, 0, 1, GREATEST, 9 * 10 ** 29, 0, 0, 0, GREATEST,
        ])

    def test_against_saying_over_by_hand(self):
        for long in some_longs(635, 150):
            row = lay_by_hand(long)
            self.assertEqual(people_in(long), len(row))
            told = laid_out(long)
            self.assertIsInstance(told, list)
            self.assertEqual(told, row)

    def test_up_to_the_bound(self):
        nines = [("again", 9 * 10 ** at, [(0, 1)]) for at in range(30)]
        self.assertEqual(people_in(nines), GREATEST)
        self.assertIs(is_long(nines + [(0, 1)]), False)
        self.assertIs(is_long(nines + [("again", 0, [(0, 1)])]), True)

    def test_laid_out_up_to_three_hundred(self):
        for long, people in (
            ([("again", 300, [(1, 2)])], 300), ([("again", 301, [(1, 2)])], 301), ([(0, 1)] * 301, 301),
            ([("again", 150, ((1, 2), (0, 0)))], 300), ([("again", GREATEST, [(1, 2)])], GREATEST),
            ([("again", 0, TOO_LONG[0])] + [("again", 30, [("again", 10, [(3, 3)])])], 300),
            (nested(8, 2, [(0, 1), (2, None)]), 512), (nested(30, GREATEST, ()), 0),
        ):
            self.assertEqual(people_in(long), people)
            if people <= 300:
                self.assertEqual(laid_out(long), lay_by_hand(long) if people else [])
            else:
                with self.assertRaises(TooMany) as caught:
                    laid_out(long)
                self.assertEqual(caught.exception.many, people)

    def test_refused(self):
        for call in (people_in, laid_out):
            check_refusals(self, call, [LONG], [(WRONG_LONGS, NoLong)])


class WhoStandsWhere(unittest.TestCase):
    def test_against_the_row_laid_out(self):
        for long in some_longs(641, 60) + GOOD[:6] + [[("again", 5, [("again", 0, TOO_LONG[0]), (2, 3)])]]:
            row = lay_by_hand(long)
            whose = whose_by_hand(long)
            for place in range(len(row)):
                self.assertEqual(saying_at(long, place), row[place])
                self.assertEqual(which_at(long, place), whose[place])
                self.assertEqual(place_of(long, *whose[place]), place)

    def test_times_that_are_not(self):
        for long in some_longs(642, 60) + [[("again", 0, [(2, 3), ("again", 4, [(0, 1)])])]]:
            numbers = [number for number, _ in whose_by_hand(long)]
            for number in range(len(written_in(long))):
                for time in (numbers.count(number), numbers.count(number) + 1, BIG):
                    with self.assertRaises(NoPlace):
                        place_of(long, number, time)

    def test_far_out_and_back_again(self):
        deep = deep_long(643, 8, 20, BIG, 2000)
        for long in (deep, [("again", GREATEST // 3, [(0, 1), (2, 3), (4, None)])], [("again", 7, [deep, ()][0])]):
            people = people_in(long)
            written = written_in(long)
            for part in range(40):
                place = (people - 1) * part // 39
                number, time = which_at(long, place)
                self.assertEqual(place_of(long, number, time), place)
                self.assertEqual(saying_at(long, place), written[number])
            for number in range(len(written)):
                time = 0
                for step in (0, 10 ** 3, 10 ** 15):
                    time += step
                    try:
                        place = place_of(long, number, time)
                    except NoPlace:
                        continue
                    self.assertEqual(which_at(long, place), (number, time))

    def test_far_out_by_hand(self):
        long = [(9, 9), ("again", 10 ** 25, [(0, 1), ("again", 1000, [(2, 3)])]), (4, None)]
        people = 2 + 1001 * 10 ** 25
        self.assertEqual(people_in(long), people)
        self.assertEqual(which_at(long, 0), (0, 0))
        self.assertEqual(which_at(long, people - 1), (3, 0))
        self.assertEqual(which_at(long, 1), (1, 10 ** 25 - 1))
        self.assertEqual(which_at(long, people - 2), (2, 0))
        self.assertEqual(which_at(long, people - 1002), (1, 0))
        self.assertEqual(which_at(long, people - 1003), (2, 1000))
        self.assertEqual(place_of(long, 2, 1000 * 10 ** 25 - 1), 2)
        self.assertEqual(saying_at(long, 2), (2, 3))
        with self.assertRaises(NoPlace):
            place_of(long, 2, 1000 * 10 ** 25)

    def test_deeper_than_may_be_handed_in(self):
        long = nested(900, 1, [(0, 1), ("again", 2, [(2, 3)])])
        self.assertIs(is_long(long), True)
        self.assertEqual(laid_out(long), [(0, 1), (2, 3), (2, 3)])
        self.assertEqual([which_at(long, place) for place in range(3)], [(0, 0), (1, 1), (1, 0)])
        self.assertEqual([place_of(long, *pair) for pair in ((0, 0), (1, 1), (1, 0))], [0, 1, 2])

    def test_refused(self):
        check_refusals(self, saying_at, [LONG, 3], [(WRONG_LONGS, NoLong), (wrong_places(17), NoPlace)])
        check_refusals(self, which_at, [LONG, 3], [(WRONG_LONGS, NoLong), (wrong_places(17), NoPlace)])
        check_refusals(self, place_of, [LONG, 3, 1], [
            (WRONG_LONGS, NoLong), (wrong_places(5), NoPlace), (WRONG_NUMBERS + [6, BIG], NoPlace),
        ])
        for call in (saying_at, which_at):
            check_refusals(self, call, [[(0, 1)], 0], [(WRONG_LONGS, NoLong), (wrong_places(1), NoPlace)])

    def test_what_is_handed_in_stays(self):
        for long in (LONG, tuple(LONG), deep_long(644, 8, 5, 9, 2)):
            kept = copy.deepcopy(long)
            for call in (is_long, people_in):
                call(long)
            for call in (saying_at, which_at):
                call(long, 5)
            place_of(long, *which_at(long, 5))
            self.assertEqual(long, kept)
