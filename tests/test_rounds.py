"""Points 71 to 75: round tables, against all lists of words gone through."""

import copy
import itertools
import math
import unittest

from boastrow.errors import NoNumber, NoRow, NoWords, TooMany
from boastrow.rounds import (
    is_consistent, least_beside, least_telling, nth_telling, round_shows, tellings, why_not,
)
from tests.helper import (
    BIG, GREATEST, WRONG_NUMBERS, WRONG_ROWS, Like, check_refusals, long_row, some_rows, spoil,
)

ROW = [(1, 1), (0, 2), (2, None), (0, 0)]
SMALL = some_rows(711, 120, 6, 6) + [[], [(0, 0)], [(0, None)], [(3, None)] * 4, [(0, 1), (0, 1), (0, 1)], ROW]
SMALL += [[(0, None)] * 4, [(0, 2), (2, 4), (2, None), (2, 5)]]
WRONG_WORDS = [
    None, 0, True, "", "0000", {}, set(), (), (True, False, True, False), [], [True] * 3, [True] * 5, [1, 0, 1, 0],
    [True, False, True, None], [True, False, True, 0], [True, False, True, 1], [True, False, True, "True"], Like(),
    [True, False, True, Like()], [[True], False, True, False], object(),
]


def by_hand(row, words, company):
    """Whether each speaks truly just if as many of the others and of the company do as it says."""
    for place, (least, most) in enumerate(row):
        many = company + (words[:place] + words[place + 1:]).count(True)
        if words[place] is not (many >= least and (most is None or many <= most)):
            return False
    return True


def all_words(row):
    """All lists of words of a row, in order."""
    return [list(words) for words in itertools.product([False, True], repeat=len(row))]


def consistent(row, company):
    """All consistent tellings, in order."""
    return [words for words in all_words(row) if by_hand(row, words, company)]


def stand(row, heard):
    """(barred, must, may): the places of these, as point 72 has it."""
    barred, must, may = [], [], []
    for place, (least, most) in enumerate(row):
        if least == heard:
            barred.append(place)
        elif least < heard and (most is None or most >= heard):
            must.append(place)
        elif most == heard - 1:
            may.append(place)
    return barred, must, may


def paper_by_hand(row, true, company):
    """The first paper, or None."""
    barred, must, may = stand(row, true + company)
    if barred:
        return ("bars", true, barred[0])
    if len(must) > true:
        return ("more", true, must)
    if len(must + may) < true:
        return ("fewer", true, sorted(must + may))
    return None


def moved(row, number):
    """All sayings of a row moved."""
    return [(least + number, None if most is None else most + number) for least, most in row]


class Tellings(unittest.TestCase):
    def test_consistent_by_hand(self):
        for row in SMALL[::3]:
            for company in (0, 2, 5):
                for words in all_words(row):
                    self.assertIs(is_consistent(row, words, company=company), by_hand(row, words, company))
        self.assertIs(is_consistent([(BIG, None)], [True], company=BIG), True)
        self.assertIs(is_consistent([(BIG, None)], [False], company=BIG - 1), True)
        self.assertIs(is_consistent([(BIG, None)], [True], company=BIG - 1), False)
        self.assertIs(is_consistent((), []), True)
        self.assertIs(is_consistent([(0, 0), (1, 1)], [True, True]), False)
        self.assertIs(is_consistent([(0, 0), (2, 2)], [True, False]), True)

    def test_how_many_by_going_through_all_words(self):
        for row in SMALL:
            for company in (0, 1, 3, 7, BIG):
                true = [words.count(True) for words in consistent(row, company)]
                wanted = [(many, true.count(many)) for many in sorted(set(true))]
                self.assertEqual(tellings(row, company=company), wanted)
                if company == 0:
                    self.assertEqual(tellings(row), wanted)

    def test_each_telling_in_order(self):
        none = 0
        for row in SMALL:
            for company in (0, 2, 4):
                found = consistent(row, company)
                none += not found
                self.assertEqual(least_telling(row, company=company), found[0] if found else None)
                for number, words in enumerate(found):
                    self.assertEqual(nth_telling(row, number, company=company), words)
                for number in (len(found), len(found) + 1, BIG):
                    self.assertIsNone(nth_telling(row, number, company=company))
        self.assertGreater(none, 0)
        self.assertEqual(least_telling(ROW), consistent(ROW, 0)[0] if consistent(ROW, 0) else None)

    def test_forty_people(self):
        row = [(0, 19)] * 40
        # Twenty of them, whichever, hear nineteen others each.
        self.assertEqual(tellings(row), [(20, math.comb(40, 20))])
        self.assertEqual(nth_telling(row, 0), [False] * 20 + [True] * 20)
        self.assertEqual(nth_telling(row, math.comb(40, 20) - 1), [True] * 20 + [False] * 20)
        self.assertIsNone(nth_telling(row, math.comb(40, 20)))
        ahead = math.comb(39, 20)
        self.assertEqual(nth_telling(row, ahead), [True] + [False] * 20 + [True] * 19)
        self.assertEqual(nth_telling(row, ahead - 1), [False] + [True] * 20 + [False] * 19)

    def test_two_hundred_people(self):
        row = [(0, 99)] * 200
        self.assertEqual(tellings(row), [(100, math.comb(200, 100))])
        self.assertEqual(least_telling(row), [False] * 100 + [True] * 100)
        self.assertEqual(tellings([(0, 99)] * 120 + [(5, None)] * 50 + [(500, 600)] * 30), [(100, math.comb(120, 50))])
        for row in (long_row(721, 200), long_row(722, 50), [(at, at + 40) for at in range(200)], [(0, None)] * 200):
            for company in (0, 30, 150, GREATEST):
                told = tellings(row, company=company)
                for true, ways in told:
                    barred, must, may = stand(row, true + company)
                    self.assertFalse(barred)
                    self.assertEqual(ways, math.comb(len(may), true - len(must)))
                for true in {0, 1, 50, 100, 199, 200} - {true for true, _ in told}:
                    self.assertIsNotNone(paper_by_hand(row, true, company))
                words = least_telling(row, company=company)
                if told:
                    self.assertTrue(is_consistent(row, words, company=company))
                    self.assertIn(words.count(True), [true for true, _ in told])
                else:
                    self.assertIsNone(words)

    def test_refused(self):
        def called(call, at):
            def with_company(*args):
                return call(*args[:at], company=args[at])
            return with_company

        rows, numbers = (WRONG_ROWS, NoRow), (WRONG_NUMBERS, NoNumber)
        check_refusals(self, called(is_consistent, 2), [ROW, [True, False, True, False], 3], [
            rows, (WRONG_WORDS, NoWords), numbers,
        ])
        for call in (tellings, least_telling):
            check_refusals(self, called(call, 1), [ROW, 3], [rows, numbers])
        for call in (nth_telling, why_not):
            check_refusals(self, called(call, 2), [ROW, 3, 2], [rows, numbers, numbers])

    def test_too_many_of_nth_telling_alone(self):
        for people in (41, 60, 200):
            row = [(0, None)] * people
            with self.assertRaises(TooMany) as caught:
                nth_telling(row, 0)
            self.assertEqual(caught.exception.many, people)
            with self.assertRaises(TooMany):
                nth_telling(row, BIG)
            with self.assertRaises(NoNumber):
                nth_telling(row, -1)
            with self.assertRaises(NoNumber):
                nth_telling(row, 0, company=-1)
            self.assertEqual(least_telling(row), [True] * people)
        self.assertEqual(nth_telling([(0, None)] * 40, 0), [True] * 40)


class Papers(unittest.TestCase):
    def test_against_tellings(self):
        seen = {}
        for row in SMALL:
            for company in (0, 1, 3, 6):
                there = [true for true, _ in tellings(row, company=company)]
                for true in list(range(len(row) + 3)) + [BIG]:
                    told = why_not(row, true, company=company)
                    self.assertEqual(told is None, true in there)
                    self.assertEqual(told, paper_by_hand(row, true, company))
                    if told is not None:
                        self.assertIs(round_shows(row, told, company=company), True)
                        seen[told[0]] = seen.get(told[0], 0) + 1
        self.assertTrue(sorted(seen) == ["bars", "fewer", "more"] and min(seen.values()) > 20)

    def test_company_left_out(self):
        self.assertEqual(why_not(ROW, 1), why_not(ROW, 1, company=0))
        self.assertIs(round_shows(ROW, ("bars", 1, 0)), True)
        self.assertIs(round_shows(ROW, ("bars", 1, 0), company=1), False)

    def test_papers_that_hold_and_others(self):
        for row in SMALL[::4]:
            for true in range(len(row) + 2):
                for company in (0, 2):
                    barred, must, may = stand(row, true + company)
                    for place in range(len(row) + 1):
                        shown = round_shows(row, ("bars", true, place), company=company)
                        self.assertIs(shown, place in barred)
                    for size in range(len(row) + 1):
                        for places in itertools.combinations(range(len(row)), size):
                            more = round_shows(row, ("more", true, list(places)), company=company)
                            self.assertIs(more, size > true and set(places) <= set(must))
                            fewer = round_shows(row, ("fewer", true, list(places)), company=company)
                            self.assertIs(fewer, size < true and list(places) == sorted(must + may))

    def test_all_sorts_of_other_things(self):
        row = [(0, None)] * 3 + [(9, 9)]
        self.assertIs(round_shows(row, ("more", 2, [0, 1, 2])), True)
        self.assertIs(round_shows(row, ("fewer", 4, [0, 1, 2])), True)
        self.assertIs(round_shows(row, ("bars", 9, 3)), True)
        things = [
            None, 0, True, "", "more", {}, set(), [], (), ("more",), ("more", 2), ("more", 2, [0, 1, 2], 0), Like(),
            ["more", 2, [0, 1, 2]], ("More", 2, [0, 1, 2]), (b"more", 2, [0, 1, 2]), (Like(), 2, [0, 1, 2]), object(),
            ("more", 2, (0, 1, 2)), ("more", 2, [2, 1, 0]), ("more", 2, [0, 1, 1, 2]), ("more", 2, [0, 1, 2, 4]),
            ("more", 2, [0, 1, 2, -1]), ("more", 2, [False, True, 2]), ("more", 2, [0, 1.0, 2]), ("more", 2, "012"),
            ("more", 2, {0, 1, 2}), ("more", 2, None), ("more", 2, [0, 1, None]), ("more", 2, [0, 1, [2]]),
            ("more", 2, Like()), ("more", 2, [0, 1, Like()]), ("fewer", 4, (0, 1, 2)), ("fewer", 4, [2, 1, 0]),
            ("fewer", 4, [0, 0, 1, 2]), ("fewer", 4, [0, True, 2]), ("bars", 9, [3]), ("bars", 9, "3"), ("bars", 9, 3.0),
            ("bars", 9, None), ("bars", 9, Like()), ("bars", 9, 4), ("bars", 9, -1), ({}, 9, 3), ([], 9, 3), (None, 9, 3),
        ]
        for wrong in WRONG_NUMBERS:
            things += [("more", wrong, [0, 1, 2]), ("fewer", wrong, []), ("bars", wrong, 3), ("bars", 9, wrong)]
        for thing in things:
            self.assertIs(round_shows(row, thing), False, thing)
        self.assertIs(round_shows([(0, 1), (1, 1)], ("bars", 1, True)), False)

    def test_many_people_far_out(self):
        row = [(BIG, None)] * 150 + [(0, BIG + 9)] * 50
        self.assertEqual(why_not(row, 3, company=BIG + 7), ("more", 3, list(range(150))))
        self.assertEqual(why_not(row, 160, company=BIG + 20), ("fewer", 160, list(range(150))))
        self.assertEqual(why_not(row, 5, company=BIG - 5), ("bars", 5, 0))
        self.assertIsNone(why_not(row, 150, company=BIG + 20))

    def test_refused(self):
        for row in WRONG_ROWS:
            for company in (0, -1):
                with self.assertRaises(NoRow):
                    round_shows(row, None, company=company)
        for company in WRONG_NUMBERS:
            with self.assertRaises(NoNumber):
                round_shows(ROW, None, company=company)
        for row in WRONG_ROWS:
            with self.assertRaises(NoRow):
                least_beside(row)


class Moved(unittest.TestCase):
    def test_all_is_told_alike(self):
        for row in SMALL[::2]:
            for company in (0, 3):
                for number in (1, 7, BIG):
                    other, far = moved(row, number), company + number
                    self.assertEqual(tellings(other, company=far), tellings(row, company=company))
                    self.assertEqual(least_telling(other, company=far), least_telling(row, company=company))
                    self.assertEqual(nth_telling(other, 1, company=far), nth_telling(row, 1, company=company))
                    for true in range(len(row) + 2):
                        self.assertEqual(why_not(other, true, company=far), why_not(row, true, company=company))

    def test_far_out_just_those_without_a_most(self):
        for row in SMALL:
            words = [most is None for _, most in row]
            self.assertEqual(tellings(row, company=BIG), [(words.count(True), 1)])
            self.assertEqual(least_telling(row, company=BIG), words)

    def test_least_beside(self):
        for row in SMALL + some_rows(731, 100, 5, 20):
            told = least_beside(row)
            self.assertTrue(tellings(row, company=told))
            for company in range(told):
                self.assertEqual(tellings(row, company=company), [])

    def test_least_beside_far_out(self):
        self.assertEqual(least_beside([]), 0)
        self.assertEqual(least_beside([(0, BIG), (BIG, None)]), 0)
        # By 0 each number up to two is barred, and only two can be three.
        self.assertEqual(least_beside([(0, 0), (1, None), (2, None)]), 1)
        self.assertEqual(least_beside([(0, 0)] + [(at, BIG) for at in range(1, 200)]), 1)
        for row in (long_row(732, GREATEST), long_row(733, 300), [(at, BIG + at) for at in range(200)]):
            told = least_beside(row)
            self.assertTrue(tellings(row, company=told))
            for company in range(max(0, told - 20), told):
                self.assertEqual(tellings(row, company=company), [])


class Kept(unittest.TestCase):
    def test_what_is_told_is_the_askers_own(self):
        row = [(0, 1), (0, 1), (3, None)]
        kept = copy.deepcopy(row)
        for call in (
            lambda: tellings(row), lambda: least_telling(row), lambda: nth_telling(row, 1), lambda: why_not(row, 0),
            lambda: why_not(row, 3), lambda: why_not(row, 4),
        ):
            first = call()
            told = copy.deepcopy(first)
            spoil(first)
            self.assertEqual((call(), row), (told, kept))
        words = [True, True, False]
        is_consistent(row, words)
        paper = why_not(row, 4)
        held = copy.deepcopy(paper)
        round_shows(row, paper)
        self.assertEqual((words, paper, row), ([True, True, False], held, kept))

    def test_a_list_changed_in_place(self):
        row = [(0, 1), (0, 1), (3, None)]
        first = [tellings(row), least_telling(row), why_not(row, 1), least_beside(row)]
        row[:] = [(0, 5), (6, 6)]
        later = [tellings(row), least_telling(row), why_not(row, 1), least_beside(row)]
        self.assertEqual(later, [f([(0, 5), (6, 6)]) for f in (tellings, least_telling)] + [
            why_not([(0, 5), (6, 6)], 1), least_beside([(0, 5), (6, 6)]),
        ])
        self.assertNotEqual(first, later)
