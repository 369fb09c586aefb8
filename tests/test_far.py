"""Points 65 to 70: long rows, what comes of them, against the row laid out and far out."""

import copy
import random
import unittest
from unittest import mock

from boastrow.errors import NoLong, NoNumber, NoPlace
from boastrow.far import (
    account, account_holds, ever_comes, far_heard, far_speaks, far_total, is_folded, least_company, rest_of, so_manieth,
    stretch_at, times_until, true_among,
)
from boastrow.powers import people_in, place_of, saying_at
from boastrow.stretches import says_of
from tests.helper import BIG, GREATEST, WRONG_NUMBERS, Like, check_refusals, holds, long_row, walked, wrong_places
from tests.long_helper import (
    TOO_LONG, WRONG_LONGS, deep_long, lay_by_hand, nested, some_longs, times_written, whose_by_hand,
    written_in,
)

LONG = [(0, 1), ("again", 3, [(2, None), ("again", 2, ((1, 1), (0, 0)))]), (5, 6)]
# Rows laid out that are longer than those that are walked person by person.
MIDDLE = [long for long in some_longs(650, 250, 3, 4, 300, 9, 4000) if len(lay_by_hand(long)) > 1100][:4]
FAR = [
    deep_long(651, 8, 20, BIG, 1500), deep_long(652, 3, 40, 10 ** 26, 10 ** 8), deep_long(653, 1, 90, BIG, 10 ** 25),
    deep_long(654, 8, 20, 10 ** 22, 1000), [("again", 4 * 10 ** 27, long_row(655, BIG, 199) + [(0, None)])],
    [("again", GREATEST, [(0, None)])], [("again", GREATEST // 2, [(7, 7), (0, BIG)])],
]
COMPANIES = [0, 1, 7, 10 ** 20, 10 ** 26 + 1, BIG, GREATEST]


def companies_near(row):
    """Companies at which something may turn, and some far ones."""
    return [0, 1, 2, 3, 5, 8, 13, max([0] + [most or least for least, most in row]) + 1, BIG]


def account_by_hand(long, company):
    """The account of a long row, person by person."""
    row = lay_by_hand(long)
    words, heard, _ = walked(row, company)
    out = [[0, 0] for _ in written_in(long)]
    for (number, _), word, hears, saying in zip(whose_by_hand(long), words, heard, row):
        out[number][0] += hears < saying[0]
        out[number][1] += word
    return [tuple(pair) for pair in out]


def walked_far(row, company):
    """(words, heard, total), walked once along a longer row."""
    words, heard = [], []
    for least, most in reversed(row):
        heard.append(company)
        words.append(least <= company and (most is None or company <= most))
        company += words[-1]
    return words[::-1], heard[::-1], company


def places_of(long, many):
    """So many places of a far row, from the first to the last."""
    people = people_in(long)
    return [(people - 1) * part // (many - 1) for part in range(many)]


class LaidOut(unittest.TestCase):
    def check_words(self, long, row, company, places, words, heard):
        for place in places:
            self.assertEqual(far_heard(long, company, place), heard[place])
            self.assertIs(far_speaks(long, company, place), words[place])
            self.assertEqual(true_among(long, company, place), words[:place].count(True))
        self.assertEqual(true_among(long, company, len(row)), words.count(True))
        true = [place for place, word in enumerate(words) if word]
        for number in sorted({0, 1, len(true) // 2, max(0, len(true) - 1)}):
            wanted = true[number] if number < len(true) else None
            self.assertEqual(so_manieth(long, company, number), wanted)
        for number in (len(true), len(true) + 1, BIG):
            self.assertIsNone(so_manieth(long, company, number))

    def test_who_speaks_truly(self):
        for long in some_longs(656, 70, 3, 4, 9, 4, 60) + [LONG, (), [("again", 9, [])], nested(8, 2, [(0, None)])]:
            row = lay_by_hand(long)
            for company in companies_near(row)[::2]:
                words, heard, total = walked(row, company)
                self.assertEqual(far_total(long, company), total)
                self.check_words(long, row, company, range(len(row))[:40], words, heard)

    def test_longer_rows(self):
        self.assertEqual(len(MIDDLE), 4)
        for long in MIDDLE:
            row = lay_by_hand(long)
            for company in (0, 4, 40, 400):
                words, heard, total = walked_far(row, company)
                self.assertEqual(far_total(long, company), total)
                self.check_words(long, row, company, range(0, len(row), len(row) // 20), words, heard)
                told = account(long, company)
                for place, (number, time) in enumerate(whose_by_hand(long)):
                    few, true = told[number]
                    self.assertEqual((time < few, few <= time < few + true), (heard[place] < row[place][0], words[place]))

    def test_totals(self):
        for long in some_longs(657, 60, 3, 4, 9, 4, 60):
            row = lay_by_hand(long)
            for company in range(15):
                self.assertIs(is_folded(long, company), walked(row, company)[2] == walked(row, company + 1)[2])
            totals = [walked(row, company)[2] for company in range(40)]
            for total in range(30):
                least = min(c for c in range(40) if totals[c] >= total)
                self.assertEqual(least_company(long, total), least)
                self.assertIs(ever_comes(long, total), total in totals)

    def test_accounts(self):
        for long in some_longs(658, 80, 3, 4, 9, 4, 60) + [LONG, [("again", 0, [(0, 1), TOO_LONG[0][0]]), (0, 0)]]:
            for company in (0, 1, 2, 3, 7, BIG):
                told = account(long, company)
                self.assertEqual(told, account_by_hand(long, company))
                self.assertEqual(sum(true for _, true in told) + company, far_total(long, company))
                self.assertIs(account_holds(long, company, told), True)

    def test_stretches(self):
        for long in some_longs(659, 60, 3, 4, 9, 4, 60):
            row = lay_by_hand(long)
            for place in range(len(row)):
                self.assertEqual(stretch_at(long, place), says_of(row, place))

    def test_as_many_begin_to_be_true_as_end(self):
        # At 1 the one begins where the other one ends: as many as ahead, but others.
        long = [("again", 10 ** 25, [(1, None), (0, 0)])]
        self.assertEqual(far_total(long, 0), 10 ** 25 + 1)
        self.assertEqual(account(long, 0), [(0, 10 ** 25), (0, 1)])
        self.assertEqual(least_company(long, 10 ** 25 + 1), 0)
        self.assertEqual(far_total(long, 1), 10 ** 25 + 1)


class LaidOutButCounted(LaidOut):
    """The same, as if there were no rows of few people that are walked person by person."""

    def setUp(self):
        for name in ("boastrow.far.FEW", "boastrow.crowds.FEW", "boastrow.crowds.OFTEN"):
            patch = mock.patch(name, -1)
            patch.start()
            self.addCleanup(patch.stop)


class FarOut(unittest.TestCase):
    def test_by_hand(self):
        one = [("again", 10 ** 25, [(0, None), ("again", 3, [(10 ** 20, 2 * 10 ** 20)])])]
        # One by one up to 10 ** 20, then by fours, then one of the three once more, then by ones again.
        fours = 10 ** 20 // 4
        self.assertEqual(far_total(one, 0), 10 ** 25 + 3 * fours + 1)
        self.assertEqual(account(one, 0), [(0, 10 ** 25), (3 * 10 ** 20, 3 * fours + 1)])
        self.assertEqual(far_heard(one, 0, people_in(one) - 1 - 4 * 10 ** 20), 10 ** 20)
        left = 10 ** 25 - 10 ** 20 - fours - 1
        for number, place in ((0, 0), (left - 1, 4 * left - 4), (left, 4 * left), (left + 1, 4 * left + 3)):
            self.assertEqual(so_manieth(one, 0, number), place)
        self.assertEqual(stretch_at(one, people_in(one) - 1), (10 ** 20, 2 * 10 ** 20))
        self.assertEqual(stretch_at(one, people_in(one) - 5), (10 ** 20 - 1, 2 * 10 ** 20 - 4))

    def test_heard_and_words_by_the_neighbours(self):
        for long in FAR:
            people = people_in(long)
            for company in COMPANIES[::2]:
                self.assertEqual(far_heard(long, company, people - 1), company)
                total = far_total(long, company)
                self.assertEqual(far_heard(long, company, 0) + far_speaks(long, company, 0), total)
                for place in places_of(long, 6)[1:]:
                    heard = far_heard(long, company, place)
                    word = far_speaks(long, company, place)
                    self.assertIs(word, holds(saying_at(long, place), heard))
                    self.assertEqual(far_heard(long, company, place - 1), heard + word)
                    self.assertEqual(true_among(long, company, place), total - heard - word)
                    self.assertEqual(true_among(long, company, place + 1), total - heard)

    def test_those_who_speak_truly_one_by_one(self):
        for long in FAR:
            for company in COMPANIES[::3]:
                true = far_total(long, company) - company
                for number in {0, 1, true // 2, true - 1} if true > 1 else ():
                    place = so_manieth(long, company, number)
                    self.assertIs(far_speaks(long, company, place), True)
                    self.assertEqual(true_among(long, company, place), number)
                self.assertIsNone(so_manieth(long, company, true))

    def test_totals_and_companies(self):
        for long in FAR:
            for company in COMPANIES:
                total = far_total(long, company)
                self.assertIs(ever_comes(long, total), True)
                least = least_company(long, total)
                self.assertTrue(least <= company and far_total(long, least) == total)
                self.assertTrue(least == 0 or far_total(long, least - 1) < total)
                following = far_total(long, company + 1)
                self.assertIs(is_folded(long, company), following == total)
                self.assertGreaterEqual(following, total)
                if following > total + 1:
                    self.assertIs(ever_comes(long, total + 1), False)
                    self.assertEqual(least_company(long, total + 1), company + 1)
            for total in COMPANIES:
                least = least_company(long, total)
                self.assertLessEqual(least, total)
                self.assertIs(ever_comes(long, total), far_total(long, least) == total)
                self.assertGreaterEqual(far_total(long, least), total)

    def test_accounts_by_the_four_people(self):
        for long in FAR:
            written = written_in(long)
            times = times_written(long)
            for company in COMPANIES[::3]:
                told = account(long, company)
                self.assertEqual(sum(true for _, true in told) + company, far_total(long, company))
                self.assertIs(account_holds(long, company, told), True)
                for number in range(0, len(written), 9):
                    few, true = told[number]
                    for time, word, less in (
                        (few - 1, False, True), (few, true > 0, False), (few + true - 1, true > 0, true == 0),
                        (few + true, False, False),
                    ):
                        if 0 <= time < times[number]:
                            place = place_of(long, number, time)
                            self.assertIs(far_speaks(long, company, place), word)
                            self.assertIs(far_heard(long, company, place) < written[number][0], less)

    def test_stretches_by_their_two_ends(self):
        none = 0
        for long in FAR:
            for place in places_of(long, 9):
                told = stretch_at(long, place)
                none += told is None
                ends = COMPANIES if told is None else [told[0] - 1, told[0], told[1], (told[1] or BIG) + 1]
                for company in ends:
                    if company is not None and company >= 0:
                        self.assertIs(far_speaks(long, company, place), holds(told, company))
        self.assertGreater(none, 0)
        self.assertIsNone(stretch_at([(0, 0), (0, None)], 0))
        self.assertIsNone(stretch_at([(5, BIG - 1), ("again", BIG, [(0, None)])], 0))
        self.assertEqual(stretch_at([(5, BIG), ("again", BIG, [(0, None)])], 0), (0, 0))

    def test_deeper_than_may_be_handed_in(self):
        long = nested(900, 1, nested(80, 2, [(0, BIG)]))
        self.assertEqual(far_total(long, 5), 2 ** 80 + 5)
        self.assertEqual(account(long, BIG), [(0, 1)])
        self.assertEqual(stretch_at(long, 0), (0, BIG - 2 ** 80 + 1))
        self.assertEqual(least_company(long, 2 ** 80 + 9), 9)

    def test_many_people_are_not_gone_through(self):
        chance = random.Random(660)
        for depth in (1, 3, 8):
            long = deep_long(chance.randint(0, 999), depth, 160 // (depth + 1), BIG, int(10 ** (27 / depth)))
            self.assertGreater(people_in(long), 10 ** 25)
            for company in COMPANIES:
                self.assertEqual(sum(true for _, true in account(long, company)) + company, far_total(long, company))


class AccountHolds(unittest.TestCase):
    def test_with_one_number_otherwise(self):
        for long in (LONG, FAR[0], FAR[5]):
            told = account(long, 1)
            for at in range(len(told)):
                few, true = told[at]
                for other in ((few + 1, true), (few, true + 1), (few - 1, true), (few, true - 1), (few + 1, true - 1)):
                    self.assertIs(account_holds(long, 1, told[:at] + [other] + told[at + 1:]), False)

    def test_with_one_thing_more_or_fewer(self):
        told = account(LONG, 2)
        for thing in (told[1:], told[:-1], told + [(0, 0)], [(0, 0)] + told, told + [None], []):
            self.assertIs(account_holds(LONG, 2, thing), False)
        self.assertIs(account_holds([], 2, []), True)
        self.assertIs(account_holds([("again", 0, [(0, 1)])], 2, [(0, 0)]), True)

    def test_all_sorts_of_other_things(self):
        told = account([(0, 1), (1, 1), (0, 0)], 0)
        self.assertEqual(told, [(0, 0), (0, 1), (0, 1)])
        for thing in (
            None, 0, True, "", "ab", {}, set(), object(), Like(), tuple(told), [list(one) for one in told], [None] * 3,
            [(0, 0), (0, 1), (0, True)], [(0, 0), (False, 1), (0, 1)], [(0, 0), (0, 1.0), (0, 1)], [(0,), (0, 1), (0, 1)],
            [(0, 0, 0), (0, 1), (0, 1)], [Like()] * 3, [(0, Like())] * 3, [(0, 0), (0, 1), "01"], dict(told), "001",
            [(0, 0), (0, 1), (0, "1")], [told, told, told], [(0, 0), (0, 1), (0, None)],
        ):
            self.assertIs(account_holds([(0, 1), (1, 1), (0, 0)], 0, thing), False, thing)


class SaidOver(unittest.TestCase):
    def test_against_saying_over_one_by_one(self):
        seen = set()
        for long in some_longs(661, 90, 3, 4, 12, 4, 40) + [[], LONG, ((0, 3),), [(0, 0), (2, 2)], [(5, 9)]]:
            row = lay_by_hand(long)
            for company in (0, 1, 2, 5):
                totals = [company]
                while len(totals) < 60 and totals[-1:] != totals[-2:-1]:
                    totals.append(walked(row, totals[-1])[2])
                rests = totals[-1:] == totals[-2:-1]
                self.assertEqual(rest_of(long, company), (len(totals) - 2, totals[-1]) if rests else None)
                seen.add(rests)
                for total in range(company + 25):
                    enough = [times for times, many in enumerate(totals) if many >= total]
                    self.assertEqual(times_until(long, company, total), enough[0] if enough else None)
        self.assertEqual(seen, {True, False})

    def test_none(self):
        self.assertIsNone(times_until([(0, 5)], 0, 7))
        self.assertEqual(times_until([(0, 5)], 0, 6), 6)
        self.assertIsNone(times_until([], 3, 4))
        self.assertEqual(times_until([], 3, 3), 0)
        self.assertEqual(rest_of([], 3), (0, 3))
        self.assertEqual(rest_of([(4, 9), ("again", 0, [(0, None)])], 3), (0, 3))
        self.assertIsNone(rest_of([(0, None)], BIG))
        self.assertIsNone(rest_of([(BIG, None)], BIG))
        self.assertEqual(rest_of([(BIG, None)], BIG - 1), (0, BIG - 1))

    def test_totals_of_thirty_figures(self):
        self.assertEqual(times_until([(0, None)], 3, GREATEST), GREATEST - 3)
        self.assertEqual(times_until([("again", 7, [(0, None)])], 0, GREATEST), -(-GREATEST // 7))
        self.assertEqual(times_until([("again", GREATEST, [(0, None)])], 1, GREATEST), 1)
        self.assertEqual(rest_of([("again", 7, [(0, BIG)])], 0), (-(-(BIG + 1) // 7), BIG + 1))
        # By twos up to BIG and one, then by ones.
        times = (BIG + 1) // 2 + GREATEST - BIG
        self.assertEqual(rest_of([(0, BIG), (0, BIG), (BIG + 1, GREATEST)], 0), (times, 10 ** 30))
        for long in FAR:
            for company in COMPANIES[::2]:
                told = rest_of(long, company)
                if told is not None:
                    times, total = told
                    self.assertEqual(far_total(long, total), total)
                    self.assertEqual(times_until(long, company, total), times)
                    self.assertIsNone(times_until(long, company, total + 1))
                else:
                    self.assertIsNotNone(times_until(long, company, GREATEST))

    def test_a_few_times_by_hand(self):
        for long in FAR:
            for company in (0, BIG):
                once = far_total(long, company)
                twice = far_total(long, once)
                if twice > once:
                    self.assertEqual([times_until(long, company, total) for total in (once, once + 1, twice)], [1, 2, 2])
                self.assertEqual(times_until(long, company, company), 0)


class Refused(unittest.TestCase):
    def test_long_rows_first_then_in_order(self):
        longs, numbers = (WRONG_LONGS, NoLong), (WRONG_NUMBERS, NoNumber)
        places = (wrong_places(17), NoPlace)
        for call in (far_total, least_company, ever_comes, is_folded, account, rest_of):
            check_refusals(self, call, [LONG, 3], [longs, numbers])
        for call in (far_heard, far_speaks):
            check_refusals(self, call, [LONG, 3, 2], [longs, numbers, places])
        check_refusals(self, true_among, [LONG, 3, 17], [longs, numbers, (wrong_places(18), NoPlace)])
        for call in (so_manieth, times_until):
            check_refusals(self, call, [LONG, 3, 2], [longs, numbers, numbers])
        check_refusals(self, stretch_at, [LONG, 2], [longs, places])

        def judged(long, company):
            return account_holds(long, company, [])

        check_refusals(self, judged, [LONG, 3], [longs, numbers])

    def test_what_is_handed_in_stays(self):
        for long in (LONG, tuple(LONG), FAR[0]):
            kept = copy.deepcopy(long)
            for call in (far_total, least_company, ever_comes, is_folded, account, rest_of, stretch_at):
                call(long, 3)
            for call in (far_heard, far_speaks, true_among, so_manieth, times_until, account_holds):
                call(long, 3, 2)
            self.assertEqual(long, kept)
