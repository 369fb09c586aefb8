"""Point 3: the refusals."""

import ast
import pathlib
import unittest

import boastrow
from boastrow import errors

PLAIN = [
    "NoNumber", "NoSaying", "NoRow", "NoPlace", "NoTable", "NoStretches", "NoLot", "NoWords", "NoShelf", "NoBook",
    "NoDeed", "NoSets", "NoLong", "NoName", "Taken", "NoneYet", "NoOrder",
]
FIELDS = [("TooMany", "many"), ("NoText", "at")]
ALL = PLAIN + [name for name, _ in FIELDS]


def made(name):
    """One error of the class, made by hand."""
    return getattr(errors, name)(7 if name not in PLAIN else "whatever it is")


class Errors(unittest.TestCase):
    def test_there_are_nineteen(self):
        found = [name for name, thing in vars(errors).items() if isinstance(thing, type)]
        self.assertEqual(sorted(found), sorted(ALL + ["BoastError"]))
        self.assertEqual(len(ALL), 19)

    def test_each_stands_straight_under_boast_error(self):
        self.assertEqual(errors.BoastError.__bases__, (ValueError,))
        for name in ALL:
            self.assertEqual(getattr(errors, name).__bases__, (errors.BoastError,))

    def test_each_is_none_of_the_others(self):
        for name in ALL:
            one = made(name)
            self.assertIsInstance(one, ValueError)
            self.assertIsInstance(one, errors.BoastError)
            self.assertEqual([other for other in ALL if isinstance(one, getattr(errors, other))], [name])

    def test_those_without_fields_take_any_text(self):
        for name in PLAIN:
            for text in ("", "a", "two words", "%s {} \n"):
                with self.assertRaises(getattr(errors, name)) as caught:
                    raise getattr(errors, name)(text)
                self.assertEqual(str(caught.exception), text)

    def test_fields_are_kept(self):
        for worth in (0, 301, 10 ** 30, 10 ** 60):
            self.assertEqual(errors.TooMany(worth).many, worth)
            self.assertEqual(errors.TooMany(many=worth).many, worth)
            self.assertEqual(errors.NoText(worth).at, worth)
            self.assertEqual(errors.NoText(at=worth).at, worth)
        self.assertIsNone(errors.NoText(None).at)

    def test_fields_are_needed(self):
        for name, _ in FIELDS:
            with self.assertRaises(TypeError):
                getattr(errors, name)()
            with self.assertRaises(TypeError):
                getattr(errors, name)(1, 2)

    def test_they_are_shown(self):
        for name in ALL:
            self.assertIsInstance(str(made(name)), str)

    def test_each_is_raised_somewhere_and_made_on_the_spot(self):
        raised = set()
        for path in sorted(pathlib.Path(boastrow.__file__).parent.glob("*.py")):
            for node in ast.walk(ast.parse(path.read_text())):
                if isinstance(node, ast.Raise):
                    self.assertIsInstance(node.exc, ast.Call)
                    raised.add(node.exc.func.id)
                    self.assertEqual((len(node.exc.args), node.exc.keywords), (1, []))
        self.assertEqual(sorted(raised), sorted(ALL))
