"""Points 52 and 56, with 51, 53, 55 and 57: papers that nobody steps in, and of how many people that needs."""

import copy
import random
import unittest

from boastrow.between import needed, table_between, window
from boastrow.errors import NoTable
from boastrow.judge_steps import needs_paper, needs_shown, nobody_shows
from boastrow.steps import in_front, step_between
from boastrow.tables import table_of
from tests.helper import (
    BIG, FALLING, GREATEST, WRONG_NUMBERS, WRONG_TABLES, Like, check_refusals, long_row, long_table, many_in, near,
    some_rows, wrong_papers,
)
from tests.test_between import nearly, parts, sums, wild

NOBODY = [(0, 0)]
THREE = ([(0, 0), (2, 2), (3, 1)], [(0, 1), (2, 0)], [(0, 8), (1, 7), (4, 9)])


def three_tables(seed, count, steps=4, gap=3):
    """Three tables each, such that somebody often does, and often nobody."""
    mixed = [[front, back, wished] for front, _, back, wished in parts(seed, count)]
    return wild(seed + 1, count, steps, gap) + nearly(seed + 2, count) + mixed


def shown_slowly(front, back, wished, word, number):
    """Whether the paper holds, by the totals of the companies one by one."""
    front, back, wished = [sums(table, 150) for table in (front, back, wished)]
    if word == "falls":
        return wished[number + 1] < wished[number]
    if word == "less":
        return wished[number] < front[back[number]]
    if word == "folded":
        return back[number] == back[number + 1] and wished[number] != wished[number + 1]
    return number in wished[:90] and number not in front


def all_numbers(tables):
    """All numbers that stand in the tables, added together."""
    return sum(sum(step) for table in tables for step in table)


def some_pairs(chance, top):
    """Pairs of a paper as they are due, of numbers up to top."""
    numbers = sorted(chance.randint(0, top) for _ in range(2 * chance.randint(1, 3)))
    pairs = [(numbers[at], numbers[at + 1]) for at in range(0, len(numbers), 2) if numbers[at] < numbers[at + 1]]
    if pairs and chance.random() < 0.5:
        pairs[0] = (None, pairs[0][1])
    return pairs


def pair_slowly(front, back, wished, pair):
    """How many people a pair shows, by its windows."""
    begun, end = pair
    shown = window(front, back, wished, end)[0] - end - many_in(back, end)
    if begun is not None:
        shown -= window(front, back, wished, begun)[1] - begun - many_in(back, begun)
    return shown


class NobodyShows(unittest.TestCase):
    def test_against_companies_and_totals_one_by_one(self):
        seen = {}
        for tables in three_tables(521, 60):
            steps = [number for table in tables for step in table for number in (step[0], sum(step))]
            for word in ("falls", "less", "folded", "never"):
                for number in near(steps):
                    wanted = shown_slowly(*tables, word, number)
                    self.assertIs(nobody_shows(*tables, (word, number)), wanted, (tables, word, number))
                    seen[word, wanted] = seen.get((word, wanted), 0) + 1
        self.assertTrue(all(seen[word, truth] > 20 for word, truth in seen) and len(seen) == 8)

    def test_told_papers_hold(self):
        for tables in three_tables(524, 80):
            told = step_between(*tables)
            if told[0] != "row":
                self.assertIs(nobody_shows(*tables, told), True)

    def test_papers_that_hold_though_another_one_is_told(self):
        front, back, wished = [(0, 0), (3, 2)], [(0, 5), (1, 4)], [(0, 4), (2, 1), (3, 0)]
        self.assertEqual(step_between(front, back, wished), ("falls", 1))
        for paper in (("less", 0), ("less", 2), ("folded", 0), ("never", 4), ("never", 3)):
            self.assertIs(nobody_shows(front, back, wished, paper), True, paper)
        for paper in (("falls", 0), ("falls", 2), ("folded", 1), ("never", 5), ("never", 2), ("never", 6)):
            self.assertIs(nobody_shows(front, back, wished, paper), False, paper)

    def test_far_out(self):
        front, back, wished = [(0, 0), (BIG, 9)], [(0, 0), (7, 5), (BIG, 4)], [(0, 9), (BIG + 5, 3)]
        for word, number, wanted in (
            ("falls", BIG + 4, True), ("falls", BIG + 5, False), ("falls", GREATEST, False), ("less", BIG - 5, True),
            ("less", BIG - 6, False), ("less", GREATEST, True), ("folded", BIG - 1, True), ("folded", BIG - 2, False),
            ("never", BIG, True), ("never", BIG + 8, True), ("never", BIG - 1, False), ("never", BIG + 9, False),
        ):
            self.assertIs(nobody_shows(front, back, wished, (word, number)), wanted, (word, number))

    def test_all_sorts_of_other_things(self):
        for tables in (THREE, ([(0, 0), (1, 3)], [(0, 4), (1, 3)], [(0, 0), (1, 2), (2, 0)])):
            for word in ("falls", "less", "folded", "never"):
                for thing in wrong_papers(word):
                    if not isinstance(thing, tuple) or thing[:1] != ("ends",):
                        self.assertIs(nobody_shows(*tables, thing), False, thing)

    def test_refused(self):
        rows, tables = (WRONG_TABLES + FALLING, NoTable), (WRONG_TABLES, NoTable)
        for call in (nobody_shows, needs_shown):
            def judged(front, back, wished, call=call):
                return call(front, back, wished, None)

            check_refusals(self, judged, list(THREE), [rows, rows, tables])
        check_refusals(self, needs_paper, list(THREE), [rows, rows, tables])
        check_refusals(self, needs_paper, [NOBODY, NOBODY, FALLING[0]], [rows, rows, tables])


class Needs(unittest.TestCase):
    def test_by_hand(self):
        self.assertEqual(needs_paper(NOBODY, NOBODY, NOBODY), ("rises", []))
        self.assertEqual(needs_paper(NOBODY, NOBODY, [(0, 3)]), ("rises", [(None, 0)]))
        wished = [(0, 2), (1, 1), (2, 0), (5, 4)]
        self.assertEqual(needs_paper(NOBODY, NOBODY, wished), ("rises", [(None, 0), (2, 5)]))
        self.assertEqual(needs_shown(NOBODY, NOBODY, wished, ("rises", [(None, 0), (2, 5)])), 6)
        self.assertEqual(needs_shown(NOBODY, NOBODY, wished, ("rises", [(None, 0)])), 2)
        self.assertEqual(needs_shown(NOBODY, NOBODY, wished, ("rises", [(2, 5)])), 4)
        self.assertEqual(needs_shown(NOBODY, NOBODY, wished, ("rises", [(1, 6)])), 3)
        self.assertEqual(needs_shown(NOBODY, NOBODY, wished, ("rises", [])), 0)
        self.assertIsNone(needs_shown(NOBODY, NOBODY, wished, ("rises", [(None, 2)])))

    def test_told_papers(self):
        none = 0
        for tables in three_tables(561, 250) + [
            [front, back, wished] for front, _, back, wished in parts(564, 60, 9, 12)
        ]:
            told = needs_paper(*tables)
            many = needed(*tables)
            none += many is None
            self.assertIs(told is None, many is None)
            if told is not None:
                self.assertEqual(needs_shown(*tables, told), many)
                self.assertEqual(sum(pair_slowly(*tables, pair) for pair in told[1]), many)
                bound = all_numbers(tables)
                self.assertTrue(all(company is None or company <= bound for pair in told[1] for company in pair))
        self.assertGreater(none, 50)

    def test_other_lists_of_pairs(self):
        chance = random.Random(565)
        seen = {}
        for tables in three_tables(566, 60):
            many = needed(*tables)
            for _ in range(12):
                pairs = some_pairs(chance, 16)
                told = needs_shown(*tables, ("rises", pairs))
                if many is None:
                    self.assertIsNone(told)
                    continue
                shown = [pair_slowly(*tables, pair) for pair in pairs]
                wanted = sum(shown) if all(one > 0 for one in shown) else None
                self.assertEqual(told, wanted)
                self.assertTrue(told is None or told <= many)
                seen[told] = seen.get(told, 0) + 1
        self.assertGreater(len(seen), 3)

    def test_pairs_side_by_side(self):
        wished = [(0, 0), (3, 2), (5, 6)]
        for pairs, shown in (
            ([(None, 3), (4, 5)], 6), ([(None, 3), (3, 5)], 6), ([(0, 3), (3, 5)], 6), ([(1, 5)], 6), ([(3, 5)], 4),
            ([(None, 3), (2, 5)], None), ([(3, 5), (0, 3)], None), ([(None, 3), (None, 5)], None), ([(3, 3)], None),
            ([(5, 3)], None), ([(3, 4)], None), ([(None, 3), (3, 4)], None), ([(0, 3), (3, 3)], None),
        ):
            self.assertEqual(needs_shown(NOBODY, NOBODY, wished, ("rises", pairs)), shown, pairs)

    def test_where_nobody_does(self):
        for tables in ((NOBODY, [(0, 1)], NOBODY), (NOBODY, NOBODY, FALLING[0]), ([(0, 0), (1, 2)], NOBODY, [(0, 1)])):
            self.assertIsNone(needs_paper(*tables))
            for pairs in ([], [(None, 0)], [(None, 5)], [(0, 1)]):
                self.assertIsNone(needs_shown(*tables, ("rises", pairs)))

    def test_all_sorts_of_other_things(self):
        wished = [(0, 2), (5, 4)]
        self.assertEqual(needs_shown(NOBODY, NOBODY, wished, ("rises", [(None, 0), (1, 5)])), 4)
        things = [
            None, 0, True, "", "rises", {}, set(), [], (), ("rises",), ["rises", []], ("rises", [], []), ("rises", None),
            ("rises", ()), ("rises", ((None, 0),)), ("rises", {}), ("rises", ""), ("rises", 0), ("Rises", []), (0, []),
            ("falls", []), (b"rises", []), (None, []), ([], []), (Like(), []), ("rises", Like()), Like(), object(),
        ]
        for wrong in WRONG_NUMBERS:
            things += [("rises", [(None, wrong)]), ("rises", [(0, wrong)]), ("rises", [wrong])]
            if wrong is not None:
                things.append(("rises", [(wrong, 5)]))
        for pair in ((), (5,), (None,), (None, 0, 0), [None, 0], [1, 5], {None: 0}, "05", (None, None), (1, None)):
            things += [("rises", [pair]), ("rises", [(None, 0), pair])]
        for thing in things:
            self.assertIsNone(needs_shown(NOBODY, NOBODY, wished, thing), thing)

    def test_far_tables_and_many_people(self):
        back = [(0, 0), (10, GREATEST)]
        wished = [(0, BIG), (10, GREATEST), (12, GREATEST + 5)]
        self.assertEqual(needs_shown(NOBODY, back, wished, needs_paper(NOBODY, back, wished)), BIG + 5)
        for start, gap in ((0, 1), (BIG, 10 ** 26)):
            wished = long_table(400, start, gap)
            told = needs_paper(NOBODY, NOBODY, wished)
            self.assertEqual(len(told[1]), 200)
            self.assertEqual(needs_shown(NOBODY, NOBODY, wished, told), 400)
        for seed, top in ((567, 300), (568, GREATEST)):
            rows = [long_row(seed + 10 * at, top, people) for at, people in enumerate((60, 80, 60))]
            tables = [table_of(rows[0]), table_of(rows[2]), table_of(rows[0] + rows[1] + rows[2])]
            told = needs_paper(*tables)
            self.assertEqual(needs_shown(*tables, told), needed(*tables))
            self.assertLessEqual(max(company or 0 for pair in told[1] for company in pair), all_numbers(tables))

    def test_what_is_handed_in_stays(self):
        tables = [NOBODY, [(0, 0), (2, 2), (3, 1)], [(0, 8), (1, 7), (2, 6), (3, 5), (4, 9)]]
        kept = copy.deepcopy(tables)
        told = needs_paper(*tables)
        paper = copy.deepcopy(told)
        self.assertEqual(needs_shown(*tables, told), needed(*tables))
        nobody_shows(*tables, ("less", 1))
        self.assertEqual((tables, told), (kept, paper))
        told[1].append("spoiled")
        self.assertEqual(needs_paper(*tables), paper)


class WhatComesOfThem(unittest.TestCase):
    def test_in_front_each_total_of_now_becomes_what_wished_has(self):
        for now, _, _, wished in parts(571, 120):
            told = in_front(now, wished)
            if told[0] == "row":
                made = sums(table_of(told[1]), 200)
                for before, after in zip(sums(now), sums(wished)):
                    self.assertEqual(made[before], after)

    def test_behind_each_company_becomes_one_of_its_window(self):
        for now, _, _, wished in parts(572, 120):
            made = table_between(now, NOBODY, wished)
            if made is not None:
                totals = sums(made)
                self.assertEqual(totals, sorted(totals))
                for company, total in enumerate(totals):
                    least, greatest = window(now, NOBODY, wished, company)
                    self.assertTrue(max(least, company) <= total <= greatest)

    def test_any_row_in_front_that_makes_it_makes_the_same_of_these_totals(self):
        for one, other in zip(some_rows(573, 60, 4, 6), some_rows(574, 60, 4, 6)):
            now, wished = table_of(other), table_of(one + other)
            before = sums(now)
            for row in (one, in_front(now, wished)[1]):
                self.assertEqual([sums(table_of(row), 200)[total] for total in before], sums(wished))
