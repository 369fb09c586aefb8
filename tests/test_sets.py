"""Points 44 to 48: rows of sets."""

import random
import unittest

from boastrow.errors import NoNumber, NoRow, NoSets, NoTable, TooMany
from boastrow.rows import total, words
from boastrow.sets import (
    at_once, fewest_sets, is_sets, set_table, set_total, set_words, sets_apart, sets_of, sayings_more, shown_at_once,
    true_at,
)
from boastrow.stretches import lot_of
from boastrow.tables import is_rows, table_of
from boastrow.wished import how_few
from tests.helper import (
    BIG, FALLING, GREATEST, WRONG_NUMBERS, WRONG_ROWS, WRONG_TABLES, Like, check_refusals, check_stretches,
    in_stretches, long_row, long_table, many_in, near, some_rows, some_tables, stretches_where, wrong_papers,
)

WRONG_SETS = [
    None, 0, True, "", "ab", {}, set(), [None], [0], ["ab"], [(0, 1)], ((0, 1),), [((0, 1),)], [()], [[(0, 1)], ()],
    [[0, 1]], [[[0, 1]]], [[None]], [[(0,)]], [[(0, 1, 2)]], [[(2, 1)]], [[(-1, 2)]], [[(True, 2)]], [[(0, True)]],
    [[("0", 1)]], [[(0, 1.0)]], [[(None, 1)]], [[(0, 1), (2, 3)]], [[(0, 1), (1, 3)]], [[(0, 1), (0, 1)]],
    [[(5, 6), (0, 1)]], [[(0, None), (5, 6)]], [[(0, 1), (3, None), (9, 9)]], [[(0, 1)], [(1, 0)]],
    [[(0, 1)], [(0, 1)], [(3, 4), (5, 5)]], [{0: 1}], [{(0, 1)}], [Like()], (one for one in [[(0, 1)]]), object(),
]
REACH = 40


def some_set(chance, many, gap, start=0):
    """Stretches, up to so many, the last one now and then without bound."""
    out = []
    at = start + chance.randint(0, gap)
    for _ in range(chance.randint(0, many)):
        last = at + chance.randint(0, gap)
        out.append((at, last))
        at = last + 2 + chance.randint(0, gap)
    if out and chance.random() < 0.2:
        out[-1] = (out[-1][0], None)
    return out


def some_sets(seed, count, people=6, many=4, gap=3, start=0):
    """So many rows of sets of up to so many people."""
    chance = random.Random(seed)
    rows = range(count)
    return [[some_set(chance, many, gap, start) for _ in range(chance.randint(0, people))] for _ in rows]


def full_sets(seed, people, many, gap, start=0):
    """One row of just so many sets of just so many stretches each."""
    chance = random.Random(seed)
    out = []
    for _ in range(people):
        held, at = [], start + chance.randint(0, gap)
        for _ in range(many):
            last = at + chance.randint(0, gap)
            held.append((at, last))
            at = last + 2 + chance.randint(0, gap)
        out.append(held)
    return out


def walked_sets(sets, company):
    """The words, and the total, as everybody is asked in turn, the one at the back first."""
    words, many = [], company
    for held in reversed(sets):
        words.insert(0, in_stretches(held, many))
        many += words[0]
    return words, many


def ends_in(sets, step=1):
    """Numbers that stand in the sets."""
    return [number for held in sets for stretch in held[::step] for number in stretch if number is not None]


class Forms(unittest.TestCase):
    def test_good_ones(self):
        good = [[], (), [[]], ([],), [[], [(0, 0)]], [[(0, None)]], [[(0, 1), (3, 3), (5, None)], [(BIG, GREATEST)]]]
        for thing in good + some_sets(441, 40) + [full_sets(442, 20, 300, 3), [[]] * 200]:
            self.assertIs(is_sets(thing), True, thing)
            self.assertIs(is_sets(tuple(thing)), True)

    def test_other_things(self):
        for thing in WRONG_SETS:
            self.assertIs(is_sets(thing), False, thing)

    def test_looked_at_whole(self):
        for person in range(0, 200, 9):
            for place in range(0, 300, 37):
                sets = [[]] * 200
                sets[person] = [(3 * at, 3 * at + 1) for at in range(300)]
                self.assertIs(is_sets(sets), True)
                for wrong in ((3 * place, 3 * place + 2), (3 * place, None), None, (1, 0)):
                    sets[person][place] = wrong
                    self.assertIs(is_sets(sets), wrong != (1, 0) and wrong is not None and place == 299)


class Told(unittest.TestCase):
    def test_by_hand(self):
        sets = [[(0, 0), (3, 5)], [(1, 2)]]
        self.assertEqual([set_words(sets, c) for c in range(3)], [[True, False], [False, True], [True, True]])
        self.assertEqual([set_total(sets, c) for c in range(7)], [1, 2, 4, 4, 5, 6, 6])
        self.assertEqual((set_words([], 7), set_total((), 7)), ([], 7))
        self.assertEqual((set_words([[]] * 3, 7), set_total([[]] * 3, 7)), ([False] * 3, 7))

    def test_near_companies(self):
        for sets in some_sets(443, 150):
            for company in range(REACH):
                self.check(sets, company)

    def test_far_companies(self):
        for sets in some_sets(444, 20, 8, 9, 10 ** 28) + some_sets(445, 20, 8, 9, 4, BIG):
            for company in near(ends_in(sets)[::3] + [GREATEST], 1):
                self.check(sets, company)

    def test_two_hundred_people(self):
        for sets in (full_sets(446, 200, 20, 9), full_sets(447, 200, 300, 10 ** 27), [[(0, None)]] * 200):
            for company in [0, 77, BIG, GREATEST] + ends_in(sets, 200)[::80]:
                self.check(sets, company)

    def check(self, sets, company):
        wanted, together = walked_sets(sets, company)
        for given in (sets, tuple(sets)):
            told = set_words(given, company)
            self.assertEqual(told, wanted)
            self.assertTrue(isinstance(told, list) and all(word is True or word is False for word in told))
            self.assertEqual(set_total(given, company), together)

    def test_of_a_row(self):
        self.assertEqual(sets_of([(0, 3), (5, None)]), [[(0, 3)], [(5, None)]])
        self.assertEqual((sets_of([]), sets_of(())), ([], []))
        for row in some_rows(448, 60, 8, 9) + some_rows(449, 10, 8, GREATEST) + [long_row(450, 150)]:
            sets = sets_of(row)
            self.assertTrue(is_sets(sets) and isinstance(sets, list))
            self.assertEqual(sets_of(tuple(row)), sets)
            for company in list(range(20)) + [BIG, GREATEST]:
                self.assertEqual(set_words(sets, company), words(row, company))
                self.assertEqual(set_total(sets, company), total(row, company))
            self.assertEqual(set_table(sets), table_of(row))
            self.assertEqual(true_at(sets), [[] if stretch is None else [stretch] for stretch in lot_of(row)])

    def test_refused(self):
        for call in (set_words, set_total):
            check_refusals(self, call, [[[(0, 1)]], 3], [(WRONG_SETS, NoSets), (WRONG_NUMBERS, NoNumber)])
        check_refusals(self, sets_of, [[(0, 1)]], [(WRONG_ROWS, NoRow)])


class Tables(unittest.TestCase):
    def test_near(self):
        several = 0
        for sets in some_sets(451, 200) + some_sets(452, 40, 12, 6, 1) + [[], [[]], [[], [(0, None)]]]:
            table, true = set_table(sets), true_at(sets)
            self.assertTrue(is_rows(table) and isinstance(true, list))
            self.assertEqual((set_table(tuple(sets)), true_at(tuple(sets))), (table, true))
            told = [walked_sets(sets, c) for c in range(120)]
            self.assertEqual([c + many_in(table, c) for c in range(120)], [together for _, together in told])
            for place in range(len(sets)):
                self.assertEqual(true[place], stretches_where([words[place] for words, _ in told]))
                several += len(true[place]) > 1
        self.assertGreater(several, 50)

    def test_stretches_with_what_never_comes_between_are_one(self):
        self.assertEqual(true_at([[(0, 0), (2, 3)], [(0, 0)]]), [[(2, 3)], [(0, 0)]])
        self.assertEqual(true_at([[(2, 2), (4, 4)], [(3, None)]]), [[(2, 3)], [(3, None)]])
        self.assertEqual(true_at([[(3, 3)], [(3, None)]]), [[], [(3, None)]])

    def check_far(self, sets, companies):
        table, true = set_table(sets), true_at(sets)
        self.assertTrue(is_rows(table))
        for held in true:
            check_stretches(self, held)
        for company in companies:
            wanted, together = walked_sets(sets, company)
            self.assertEqual([in_stretches(held, company) for held in true], wanted)
            self.assertEqual(company + many_in(table, company), together)

    def test_far(self):
        for sets in some_sets(453, 20, 8, 9, 10 ** 28) + some_sets(454, 20, 8, 9, 4, BIG):
            starts = [c for c, _ in set_table(sets)]
            self.check_far(sets, near(starts[::1 + len(starts) // 9] + ends_in(sets)[::9] + [GREATEST], 1))

    def test_two_hundred_people(self):
        for sets in (full_sets(455, 200, 20, 9), full_sets(456, 200, 20, 10 ** 27), [[(BIG, None)]] * 200):
            starts = [c for c, _ in set_table(sets)]
            self.check_far(sets, near(starts[::1 + len(starts) // 6], 1))

    def test_three_hundred_stretches_each(self):
        sets = full_sets(457, 200, 300, 10 ** 27)
        self.check_far(sets, [0, BIG, sets[3][77][0]])
        self.assertGreater(len(set_table(sets)), 10 ** 5)

    def test_refused(self):
        for call in (set_table, true_at, sayings_more):
            check_refusals(self, call, [[[(0, 1)]]], [(WRONG_SETS, NoSets)])


class FewestSets(unittest.TestCase):
    def test_by_hand(self):
        self.assertEqual(fewest_sets([(0, 0)]), ("row", []))
        self.assertEqual(fewest_sets([(0, 2)]), ("row", [[(1, None)], [(0, None)]]))
        table = [(0, 2), (1, 1), (2, 0), (4, 3), (5, 2)]
        self.assertEqual(fewest_sets(table), ("row", [[(6, 6)], [(1, 1), (5, None)], [(0, 1), (4, None)]]))

    def tables(self):
        tables = some_tables(461, 200, 14, 4) + [table_of(row) for row in some_rows(462, 60, 9, 9)]
        tables += [set_table(sets) for sets in some_sets(463, 60)] + [long_table(400), long_table(400, BIG, 10 ** 26)]
        return tables + [[(0, 300)], [(0, 0), (BIG, 300)], [(0, 200)] + [(c, 200 - c) for c in range(1, 201)]]

    def test_has_the_table_and_is_what_the_point_tells(self):
        for table in self.tables():
            kind, sets = fewest_sets(table)
            most = max(many for _, many in table)
            self.assertEqual((kind, len(sets), set_table(sets)), ("row", most, table))
            self.assertTrue(is_sets(sets) and isinstance(sets, list))
            if table[-1][0] < 100:
                self.check_sets(table, sets)

    def check_sets(self, table, sets):
        reach = table[-1][0] + 3
        manies = [many_in(table, c) for c in range(reach)]
        true = true_at(sets)
        for behind, held in enumerate(reversed(sets)):
            self.assertEqual(true[len(sets) - 1 - behind], stretches_where([many > behind for many in manies]))
            said = {c + behind for c in range(reach) if manies[c] > behind}
            self.assertEqual([in_stretches(held, c) for c in range(reach)], [c in said for c in range(reach)])

    def test_no_fewer_do(self):
        # By the company of the greatest many each of so many people speaks truly, whatever they say.
        for sets in some_sets(464, 100):
            table = set_table(sets)
            self.assertLessEqual(len(fewest_sets(table)[1]), len(sets))

    def test_falls(self):
        self.assertEqual(fewest_sets([(0, 2), (1, 0)]), ("falls", 0))
        self.assertEqual(fewest_sets([(0, 0), (4, 5), (9, 3), (12, 0)]), ("falls", 8))
        self.assertEqual(fewest_sets([(0, 0), (4, BIG), (GREATEST, 3)]), ("falls", GREATEST - 1))

    def test_too_many(self):
        for table, many in (([(0, 301)], 301), ([(0, 1), (5, GREATEST), (9, GREATEST - 1)], GREATEST)):
            with self.assertRaises(TooMany) as caught:
                fewest_sets(table)
            self.assertEqual(caught.exception.many, many)
        # More sayings than three hundred would be needed, but no more sets.
        self.assertEqual(len(fewest_sets(long_table(400))[1]), max(many for _, many in long_table(400)))

    def test_refused(self):
        check_refusals(self, fewest_sets, [[(0, 1)]], [(WRONG_TABLES, NoTable)])


class AtOnce(unittest.TestCase):
    def test_each_number(self):
        for table in some_tables(471, 60, 9, 4):
            manies = [many_in(table, c) for c in range(60)]
            for c in range(60):
                self.assertEqual(shown_at_once(table, ("at once", c)), manies[c])
            self.assertEqual(at_once(table), ("at once", manies.index(max(manies))))
            self.assertEqual(shown_at_once(table, at_once(table)), len(fewest_sets(table)[1]))

    def test_by_hand_and_far_out(self):
        self.assertEqual(at_once([(0, 0)]), ("at once", 0))
        self.assertEqual(at_once([(0, 2), (1, 1), (4, 2), (BIG, 7), (GREATEST, 6)]), ("at once", BIG))
        self.assertEqual(shown_at_once([(0, 0), (BIG, GREATEST)], ("at once", GREATEST)), GREATEST)
        self.assertEqual(shown_at_once([(0, 0), (BIG, GREATEST)], ("at once", BIG - 1)), 0)

    def test_other_things(self):
        for paper in wrong_papers("at once"):
            self.assertIsNone(shown_at_once([(0, 3)], paper), paper)
        self.assertEqual(shown_at_once([(0, 3)], ("at once", 0)), 3)

    def test_refused(self):
        check_refusals(self, at_once, [[(0, 1)]], [(WRONG_TABLES + FALLING, NoTable)])
        for paper in (("at once", 0), None):
            def judged(table):
                return shown_at_once(table, paper)
            check_refusals(self, judged, [[(0, 1)]], [(WRONG_TABLES + FALLING, NoTable)])


class Apart(unittest.TestCase):
    def test_against_each_company(self):
        rows = some_sets(481, 150, 3, 3, 2)
        pairs = list(zip(rows, rows[1:])) + [(sets, fewest_sets(set_table(sets))[1]) for sets in rows]
        pairs += [(sets, tuple(sets[:-1]) + (sets[-1] + [(BIG, BIG)],)) for sets in rows
                  if sets and (not sets[-1] or sets[-1][-1][1] is not None)]
        seen = set()
        for one, other in pairs:
            reach = list(range(REACH)) + near([BIG], 3)
            unlike = [c for c in reach if walked_sets(one, c)[1] != walked_sets(other, c)[1]]
            self.assertEqual(sets_apart(one, other), unlike[0] if unlike else None)
            self.assertEqual(sets_apart(other, one), unlike[0] if unlike else None)
            seen.add("alike" if not unlike else "early" if unlike[0] == 0 else "late" if unlike[0] < 99 else "far")
        self.assertEqual(seen, {"alike", "early", "late", "far"})

    def test_two_hundred_people(self):
        sets = full_sets(482, 200, 20, 10 ** 27)
        self.assertIsNone(sets_apart(sets, tuple(sets)))
        told = sets_apart(sets, sets[1:])
        for company, wanted in ((told, False), (told - 1, True)):
            self.assertIs(walked_sets(sets, company)[1] == walked_sets(sets[1:], company)[1], wanted)

    def test_refused(self):
        faults = (WRONG_SETS, NoSets)
        check_refusals(self, sets_apart, [[[(0, 1)]], [[(0, 2)]]], [faults, faults])


class SayingsMore(unittest.TestCase):
    def test_as_told(self):
        more = 0
        for sets in some_sets(483, 200) + [sets_of(row) for row in some_rows(484, 40, 8, 8)] + [full_sets(485, 99, 9, 9)]:
            table = set_table(sets)
            told = sayings_more(sets)
            self.assertEqual(told, how_few(table) - max(many for _, many in table))
            self.assertEqual(sayings_more(tuple(sets)), told)
            more += told > 0
        self.assertGreater(more, 50)

    def test_by_hand(self):
        self.assertEqual((sayings_more([]), sayings_more([[(0, None)]]), sayings_more([[]])), (0, 0, 0))
        self.assertEqual(sayings_more([[(3 * at, 3 * at) for at in range(300)]]), 299)
        self.assertEqual(sayings_more([[(0, 0), (2, 2)], [(5, None)]]), 2)
