"""The form of the package: the interface as it is written, and what the code may look like."""

import ast
import builtins
import importlib
import inspect
import pathlib
import unittest

PACKAGE = pathlib.Path(__file__).resolve().parent.parent / "boastrow"

INTERFACE = {
    "rows": [
        "is_number(thing)", "is_saying(thing)", "is_row(thing)", "words(row, company)", "heard(row, company)",
        "total(row, company)", "comes(row, company, place)", "put_in(row, place, saying)", "taken(row, place)",
        "changed(row, place, saying)", "parted(row, place)",
    ],
    "walks": [
        "swayed(row, company, place)", "true_between(row, company, first, *, last=None)",
        "hindmost(row, company, many)",
    ],
    "tables": [
        "is_table(thing)", "is_rows(thing)", "table_of(row)", "total_by(table, company)", "never_comes(table)",
        "folds(table)", "table_by(never, folds)", "joined(front, back)", "greater_of(one, other)",
        "lesser_of(one, other)",
    ],
    "apart": ["alike(one, other)", "least_apart(one, other)", "least_less(one, other)"],
    "judge_apart": ["apart_holds(one, other, paper)"],
    "shelves": [
        "is_shelf(thing)", "book(shelf, m)", "books_to(shelf, number)", "shelf_of(row)", "shelf_by(table)",
        "table_of_shelf(shelf)", "led(shelf, deeds)", "deeds_between(one, other)", "Shelf(*, shelf=None)",
    ],
    "wishes": [
        "wishes(row, many)", "companies(row, total)", "companies_between(row, least, most)",
        "least_from(row, place, many)",
    ],
    "stretches": ["says_of(row, place)", "lot_of(row)", "changes(row)", "when(row, words)"],
    "lots": [
        "is_lot(thing)", "lot_table(lot)", "row_for(lot)", "row_in_order(lot)", "nested(lot)", "crossed(lot)",
        "bars(lot)", "more_for(lot)",
    ],
    "judge_lots": ["lot_shows(lot, paper)"],
    "wished": ["row_of(table)", "how_few(table)", "peeled(table)", "may_lead(table, thing)"],
    "fewest": ["fewest(row)", "within(row, people)", "may_go(row)"],
    "judge_fewest": ["falls_holds(table, paper)", "totals_hold(table, people, paper)"],
    "sets": [
        "is_sets(thing)", "set_words(sets, company)", "true_at(sets)", "sets_of(row)", "set_total(sets, company)",
        "set_table(sets)", "fewest_sets(table)", "shown_at_once(table, paper)", "at_once(table)",
        "sets_apart(one, other)", "sayings_more(sets)",
    ],
    "between": [
        "window(front, back, wished, company)", "table_between(front, back, wished)", "needed(front, back, wished)",
        "front_first(front, back, wished)",
    ],
    "steps": [
        "step_between(front, back, wished)", "in_front(now, wished)", "step_behind(now, wished)",
        "left_front(row, many)", "spare_front(row, many)", "spare_behind(row, many)",
    ],
    "judge_steps": [
        "nobody_shows(front, back, wished, paper)", "needs_paper(front, back, wished)",
        "needs_shown(front, back, wished, paper)",
    ],
    "meetings": ["front_for_both(one, other)", "behind_for_both(one, other)"],
    "powers": [
        "is_long(thing)", "people_in(long)", "laid_out(long)", "saying_at(long, place)", "which_at(long, place)",
        "place_of(long, number, time)",
    ],
    "far": [
        "far_total(long, company)", "least_company(long, total)", "ever_comes(long, total)",
        "is_folded(long, company)", "far_heard(long, company, place)", "far_speaks(long, company, place)",
        "true_among(long, company, many)", "so_manieth(long, company, number)", "account(long, company)",
        "account_holds(long, company, thing)", "stretch_at(long, place)", "times_until(long, company, total)",
        "rest_of(long, company)",
    ],
    "rounds": [
        "is_consistent(row, words, *, company=0)", "tellings(row, *, company=0)", "least_telling(row, *, company=0)",
        "nth_telling(row, number, *, company=0)", "why_not(row, true, *, company=0)",
        "round_shows(row, paper, *, company=0)", "least_beside(row)",
    ],
    "halls": ["Hall()"],
    "texts": [
        "show_row(row)", "show_table(table)", "show_stretches(stretches)", "show_shelf(shelf)", "read_row(text)",
        "read_table(text)", "read_stretches(text)", "read_lot(text)", "read_shelf(text)",
    ],
    "orders": ["order_of(text)", "show_order(order)"],
    "desk": ["Desk()"],
}
CLASSES = {
    ("shelves", "Shelf"): [
        "double(self, m)", "strike(self, m)", "enter(self, saying)", "undo(self)", "told(self)", "number_of(self, m)",
        "many_to(self, number)", "__eq__(self, other)", "__len__(self)",
    ],
    ("halls", "Hall"): [
        "begin(self, name, long)", "step_in(self, name, place, saying)", "go(self, name, place)",
        "resay(self, name, place, saying)", "cut(self, name, place, other)", "join_to(self, name, other)",
        "say_over(self, name, many)", "turn_about(self, name)", "drop(self, name)", "undo(self)", "redo(self)",
        "names(self)", "people(self, name)", "total(self, name, company)", "least(self, name, total)",
        "saying(self, name, place)", "speaks(self, name, company, place)", "long_row(self, name)",
        "together(self, names, company)", "deeds(self)", "do(self, deed)", "gained(self, name, company)", "twin(self)",
        "__len__(self)",
    ],
    ("desk", "Desk"): ["say(self, text)", "hall(self)"],
}
# What comes from outside the package.
LIBRARY = [("math", "comb")]
BARRED = (ast.GeneratorExp, ast.Yield, ast.YieldFrom, ast.Global, ast.AsyncFunctionDef, ast.Await, ast.Set, ast.Div)


def files():
    """The files of the package, rising."""
    return sorted(PACKAGE.glob("*.py"))


def signature(name, thing):
    """A function's name and arguments as the interface writes them."""
    return name + str(inspect.signature(thing))


class Interface(unittest.TestCase):
    def test_functions_stand_in_their_files(self):
        for module, wanted in INTERFACE.items():
            found = importlib.import_module("boastrow." + module)
            for line in wanted:
                name = line.split("(")[0]
                thing = getattr(found, name)
                self.assertEqual(signature(name, thing), line)
                self.assertEqual(thing.__module__, "boastrow." + module)

    def test_methods_stand_in_their_classes(self):
        for (module, name), wanted in CLASSES.items():
            thing = getattr(importlib.import_module("boastrow." + module), name)
            self.assertEqual(thing.__module__, "boastrow." + module)
            for line in wanted:
                method = line.split("(")[0]
                self.assertEqual(signature(method, vars(thing)[method]), line)


class Form(unittest.TestCase):
    def test_the_folder_holds_files_alone(self):
        held = [path for path in PACKAGE.iterdir() if path.name != "__pycache__"]
        self.assertEqual(sorted(held), files())

    def test_sizes_and_signs(self):
        for path in files():
            text = path.read_text(encoding="utf-8")
            lines = text.split("\n")
            self.assertLess(len(lines), 400, path)
            self.assertLessEqual(max(map(len, lines)), 120, path)
            self.assertTrue(all(sign == "\n" or " " <= sign <= "~" for sign in text), path)

    def test_functions_are_small(self):
        for path in files():
            for node in ast.walk(ast.parse(path.read_text())):
                if isinstance(node, ast.FunctionDef):
                    self.assertLessEqual(node.end_lineno - node.lineno, 39, (path, node.name))
                    self.assertEqual(node.decorator_list, [])

    def test_nothing_barred(self):
        for path in files():
            for node in ast.walk(ast.parse(path.read_text())):
                self.assertNotIsInstance(node, BARRED, path)
                self.assertFalse(isinstance(node, ast.Attribute) and node.attr == "sort", path)
                self.assertFalse(isinstance(node, ast.Constant) and isinstance(node.value, float), path)

    def test_imports_come_from_the_package_by_full_names(self):
        for path in files():
            for node in ast.walk(ast.parse(path.read_text())):
                self.assertNotIsInstance(node, ast.Import, path)
                if isinstance(node, ast.ImportFrom) and (node.module, node.names[0].name) not in LIBRARY:
                    self.assertEqual((node.module.split(".")[0], node.level), ("boastrow", 0), path)
                    defined = ast.parse((PACKAGE / (node.module.split(".")[1] + ".py")).read_text()).body
                    names = [one.name for one in defined if isinstance(one, (ast.FunctionDef, ast.ClassDef))]
                    names += [one.targets[0].id for one in defined if isinstance(one, ast.Assign)]
                    for one in node.names:
                        self.assertIn(one.name, names, path)

    def test_no_two_bindings_of_a_name(self):
        for path in files():
            names = []
            for node in ast.parse(path.read_text()).body:
                names += [one.name for one in node.names] if isinstance(node, ast.ImportFrom) else []
                names += [node.name] if isinstance(node, (ast.FunctionDef, ast.ClassDef)) else []
                names += [node.targets[0].id] if isinstance(node, ast.Assign) else []
            self.assertEqual(len(names), len(set(names)), path)

    def test_all_that_is_imported_is_used(self):
        for path in files():
            tree = ast.parse(path.read_text())
            used = {node.id for node in ast.walk(tree) if isinstance(node, ast.Name)}
            for node in tree.body:
                for one in node.names if isinstance(node, ast.ImportFrom) else []:
                    self.assertIn(one.name, used, path)

    def test_no_two_files_import_from_each_other(self):
        ahead = {}
        for path in files():
            found = [node.module for node in ast.walk(ast.parse(path.read_text())) if isinstance(node, ast.ImportFrom)]
            ahead[path.stem] = [module.split(".")[1] for module in found if module.startswith("boastrow.")]
        while ahead:
            free = [name for name, left in ahead.items() if not any(one in ahead for one in left)]
            self.assertTrue(free, ahead)
            for name in free:
                del ahead[name]

    def test_no_name_of_a_builtin(self):
        for path in files():
            for node in ast.walk(ast.parse(path.read_text())):
                names = [node.id] if isinstance(node, ast.Name) and isinstance(node.ctx, ast.Store) else []
                names += [node.arg] if isinstance(node, ast.arg) else []
                names += [node.name] if isinstance(node, (ast.FunctionDef, ast.ClassDef)) else []
                for name in names:
                    self.assertTrue(name.startswith("__") or not hasattr(builtins, name), (path, name))

    def test_no_percent_sign_in_a_string(self):
        for path in files():
            for node in ast.walk(ast.parse(path.read_text())):
                if isinstance(node, ast.Constant) and isinstance(node.value, str):
                    self.assertNotIn("%", node.value, path)
