"""Points 1 to 4: the promise of the whole, over all stages together."""

import ast
import os
import pathlib
import subprocess
import sys
import unittest

import boastrow
from boastrow.desk import Desk
from boastrow.far import account, far_total, is_folded, rest_of, stretch_at
from boastrow.fewest import fewest
from boastrow.halls import Hall
from boastrow.judge_fewest import falls_holds
from boastrow.judge_steps import needs_paper, needs_shown, nobody_shows
from boastrow.powers import people_in
from boastrow.rows import total, words
from boastrow.sets import fewest_sets
from boastrow.steps import in_front, step_behind, step_between
from boastrow.stretches import lot_of
from boastrow.tables import folds, joined, never_comes, table_of
from boastrow.texts import read_row, show_row
from boastrow.walks import swayed
from boastrow.wished import how_few, row_of
from tests.helper import BIG, GREATEST, holds, long_row, numbers_in, some_rows, some_tables
from tests.long_helper import deep_long, some_longs

PACKAGE = pathlib.Path(boastrow.__file__).parent
NOBODY = [(0, 0)]


class Whole(unittest.TestCase):
    def test_what_each_says_is_a_stretch_of_the_company_or_never_true(self):
        for row in some_rows(901, 60, 7, 9):
            lot = lot_of(row)
            for company in range(30):
                self.assertEqual(words(row, company), [holds(stretch, company) for stretch in lot])

    def test_never_two_fewer(self):
        for long in some_longs(902, 60) + [deep_long(903, 8, 20, BIG, 1000), deep_long(904, 2, 60, BIG, 10 ** 12)]:
            for company in list(range(12)) + [10 ** 20, BIG, GREATEST]:
                self.assertGreaterEqual(far_total(long, company + 1), far_total(long, company))

    def test_each_table_that_never_falls_by_two_is_that_of_some_row(self):
        for table in some_tables(905, 80, 7, 4):
            told = row_of(table)
            self.assertEqual((told[0], table_of(told[1])), ("row", table))
            self.assertEqual(len(told[1]), len(numbers_in(never_comes(table))))
            self.assertEqual(table_of(fewest(told[1])), table)
            self.assertEqual(how_few(table), len(fewest(told[1])))
        for table in ([(0, 2), (1, 0)], [(0, 0), (5, BIG), (6, BIG - 2)]):
            paper = row_of(table)
            self.assertIs(falls_holds(table, paper), True)

    def test_who_steps_in_or_the_paper_that_nobody_does(self):
        tables = some_tables(906, 16, 4, 3)
        seen = set()
        for one in tables:
            for other in tables:
                for front, back, told in ((NOBODY, one, in_front(one, other)), (one, NOBODY, step_behind(one, other))):
                    seen.add(told[0])
                    self.assertEqual(step_between(front, back, other), told)
                    if told[0] == "row":
                        self.assertEqual(joined(front, joined(table_of(told[1]), back)), other)
                        paper = needs_paper(front, back, other)
                        self.assertEqual(needs_shown(front, back, other, paper), len(told[1]))
                    else:
                        self.assertIs(nobody_shows(front, back, other, told), True)
                        self.assertIsNone(needs_paper(front, back, other))
        self.assertTrue(seen > {"row", "less"})

    def test_one_row_through_all_stages(self):
        row = long_row(907, 300)
        desk, hall = Desk(), Hall()
        hall.begin("row", row)
        self.assertEqual(desk.say("begin row " + show_row(row)), "ok")
        self.assertEqual(desk.hall().long_row("row"), hall.long_row("row"))
        self.assertEqual(read_row(desk.say("show row")), row)
        self.assertEqual(desk.say("fewest row"), show_row(fewest(row)))
        self.assertEqual(desk.say("sets row"), str(len(fewest_sets(table_of(row))[1])))
        for company in (0, 3, 100, 250, 700, BIG):
            told = {total(row, company), far_total(row, company), hall.total("row", company)}
            self.assertEqual(told, {int(desk.say(f"total row {company}"))})
            self.assertEqual(company + sum(true for _, true in account(row, company)), total(row, company))
            self.assertEqual([true for _, true in account(row, company)], [int(word) for word in words(row, company)])
            self.assertEqual(swayed(row, company, 199)[1] >= company, True)
        self.assertEqual([stretch_at(row, place) for place in range(200)], lot_of(row))
        for first, last in folds(table_of(row)):
            self.assertTrue(is_folded(row, first) and is_folded(row, last) and not is_folded(row, last + 1))

    def test_numbers_of_thirty_figures(self):
        long = [("again", 10 ** 29, [(10 ** 29, None), (0, GREATEST)])]
        self.assertEqual(people_in(long), 2 * 10 ** 29)
        # One of two speaks truly, and both from 10 ** 29 on.
        self.assertEqual(far_total(long, 0), 10 ** 29 + 1)
        self.assertEqual(far_total(long, 1), 10 ** 29 + 3)
        self.assertEqual(far_total(long, 10 ** 29), 3 * 10 ** 29)
        self.assertEqual(far_total(long, GREATEST), GREATEST + 10 ** 29 + 1)
        self.assertIsNone(rest_of(long, GREATEST))


class NothingElse(unittest.TestCase):
    def test_nothing_from_outside(self):
        for path in sorted(PACKAGE.glob("*.py")):
            for node in ast.walk(ast.parse(path.read_text())):
                self.assertNotIsInstance(node, ast.Import)
                if isinstance(node, ast.ImportFrom):
                    self.assertIn(node.module.split(".")[0], ("boastrow", "math"), path)
                if isinstance(node, ast.Name):
                    self.assertNotIn(node.id, ("open", "input", "print", "id", "hash", "globals", "exec", "eval"), path)

    def test_the_same_in_another_run(self):
        """What is told does not hang on the order in which Python keeps the members of a set."""
        script = (
            "from tests.test_desk import desk_with, all_answers\n"
            "from tests.helper import some_rows\n"
            "print(all_answers(desk_with(dict(zip('abcdef', some_rows(908, 6, 7, 9))))))\n"
        )
        told = set()
        for seed in ("0", "1", "2"):
            env = {**os.environ, "PYTHONHASHSEED": seed, "PYTHONDONTWRITEBYTECODE": "1"}
            run = subprocess.run(
                [sys.executable, "-c", script], cwd=PACKAGE.parent, env=env, capture_output=True, text=True, check=True,
            )
            told.add(run.stdout)
        self.assertEqual(len(told), 1)
