"""Points 87 and 88: orders, read and written."""

import copy
import random
import unittest

from boastrow.errors import NoOrder, NoText
from boastrow.orders import order_of, show_order
from tests.helper import BIG, GREATEST, WRONG_NUMBERS, WRONG_SAYINGS, Like, spoil
from tests.long_helper import WRONG_LONGS, nested, some_longs
from tests.test_halls import WRONG_NAMES
from tests.test_texts import NO_ROWS, ROWS

ORDERS = [
    ("begin ab 0-1 2*(3- 4*())", ("begin", "ab", [(0, 1), ("again", 2, [(3, None), ("again", 4, [])])])),
    ("begin abcdefgh ", ("begin", "abcdefgh", [])), ("in a 3 1-2", ("in", "a", 3, (1, 2))),
    ("in a 0 1-", ("in", "a", 0, (1, None))), ("go a 0", ("go", "a", 0)), ("resay b 12 0-0", ("resay", "b", 12, (0, 0))),
    ("cut a 4 b", ("cut", "a", 4, "b")), ("join a b", ("join", "a", "b")), ("join a a", ("join", "a", "a")),
    ("over a 0", ("over", "a", 0)), ("turn a", ("turn", "a")), ("drop a", ("drop", "a")), ("undo", ("undo",)),
    ("redo", ("redo",)), ("names", ("names",)), ("people a", ("people", "a")), ("total a 7", ("total", "a", 7)),
    ("least a 7", ("least", "a", 7)), ("speaks a 7 8", ("speaks", "a", 7, 8)), ("when a 7", ("when", "a", 7)),
    ("gained a 7", ("gained", "a", 7)), ("show a", ("show", "a")), ("table a", ("table", "a")),
    ("never never", ("never", "never")), ("folds a", ("folds", "a")), ("lot a", ("lot", "a")),
    ("fewest fewest", ("fewest", "fewest")), ("gone a", ("gone", "a")), ("sets a", ("sets", "a")),
    ("apart a b", ("apart", "a", "b")), ("front a b", ("front", "a", "b")), ("behind a b", ("behind", "a", "b")),
    ("round a 7", ("round", "a", 7)), (f"total abc {GREATEST}", ("total", "abc", GREATEST)),
    (f"in a 0 {10 ** 40}-{10 ** 60}", ("in", "a", 0, (10 ** 40, 10 ** 60))),
    (f"in a 0 {10 ** 40}-", ("in", "a", 0, (10 ** 40, None))), ("begin begin 1-", ("begin", "begin", [(1, None)])),
    (f"begin a {GREATEST}*({BIG}-)", ("begin", "a", [("again", GREATEST, [(BIG, None)])])),
    (f"begin a 0*({10 ** 40}*(0-))", ("begin", "a", [("again", 0, [("again", 10 ** 40, [(0, None)])])])),
]
WRONG_TEXTS = [
    "", " ", "x", "Names", "names ", " names", "names a", "undo 1", "redo  ", "begin", "begin ", "begin a", "begin A 0-1",
    "begin  0-1", "begin  a 0-1", "begin a1 x", "begin abcdefghi x", " begin a 0-1", "people", "people ", "people a b",
    "people  a", "people a ", "people A", "people abcdefghi", "people a1", "people \u00e4", "in a 3", "in a 1-2 3",
    "in a 3 1-2 4", "in a 3 2-1", "in a 3 01-2", "in a 3 1", "in a 03 1-2", "in a 3  1-2", "in a  3 1-2", "in a -1 1-2",
    "in a 3 -1", "in a 3 1-2 ", "in a 3 2*(0-1)", "in a 3 never", "go a", "go a 00", "go a 01", "go a x", "go a 1.0", "go a 1_0",
    "go a +1", "go a \u0661", "go a 1 2", "go 1 a", "cut a 4", "cut a b 4", "cut a 4 5", "cut a 4 B", "join a", "join a b c",
    "join a 3", "over a", "over a -2", "turn", "turn a 2", "drop a b", "total a", "total a 3 4", "speaks a 3", "speaks a 3 x",
    "when a", "gained a -1", "apart a", "front a", "behind a b c", "round a", "round a b", "step_in a 3 1-2", "say_over a 3",
    "turn_about a", "join_to a b", "names\n", "total a 3\n", "total\ta 3", "twin", "do", "deeds", f"total a {10 ** 30}",
    f"go a {10 ** 30}", "total a " + "1" * 31, "speaks a 1 " + "1" * 31, "a" * 4000,
]


def ways_wrong(order):
    """The order with one thing otherwise, more or fewer: none any more."""
    out = [list(order), order + (0,), order[:-1], (order[0].upper(), *order[1:]), (order[0] + " ", *order[1:])]
    for at, thing in enumerate(order):
        if at == 0:
            wrongs = [None, 0, b"go", Like(), [], ("go",), "step_in", ""]
        elif isinstance(thing, str):
            wrongs = WRONG_NAMES
        elif isinstance(thing, int):
            wrongs = WRONG_NUMBERS + [10 ** 30, 10 ** 31]
        elif isinstance(thing, tuple):
            wrongs = WRONG_SAYINGS
        else:
            wrongs = WRONG_LONGS
        out += [order[:at] + (wrong,) + order[at + 1:] for wrong in wrongs]
    return out


class Orders(unittest.TestCase):
    def test_there_and_back(self):
        for text, order in ORDERS:
            told = order_of(text)
            self.assertIsInstance(told, tuple)
            self.assertEqual(told, order)
            self.assertEqual(show_order(order), text)
        self.assertEqual(len({text.split(" ")[0] for text, _ in ORDERS}), 30)

    def test_long_rows_as_lists_and_tuples(self):
        for text, row in ROWS:
            self.assertEqual(order_of("begin ab " + text), ("begin", "ab", row))
            self.assertEqual(show_order(("begin", "ab", tuple(row))), "begin ab " + text)
        for long in some_longs(871, 40):
            text = show_order(("begin", "x", long))
            self.assertEqual(show_order(order_of(text)), text)
        deep = nested(900, 1, [(0, 1)])
        self.assertEqual(show_order(order_of(show_order(("begin", "x", deep)))), show_order(("begin", "x", deep)))

    def test_no_orders(self):
        for text in WRONG_TEXTS:
            with self.subTest(text=text), self.assertRaises(NoOrder):
                order_of(text)
        for thing in (None, 0, True, b"names", ["names"], ("names",), {}, set(), object(), Like()):
            with self.assertRaises(NoOrder):
                order_of(thing)

    def test_texts_that_write_no_long_row(self):
        for text, at in NO_ROWS:
            with self.subTest(text=text), self.assertRaises(NoText) as caught:
                order_of("begin abc " + text)
            self.assertEqual(caught.exception.at, at)
        with self.assertRaises(NoText) as caught:
            order_of("begin a  ")
        self.assertEqual(caught.exception.at, 0)

    def test_tuples_that_are_none(self):
        for _, order in ORDERS[:35]:
            for thing in ways_wrong(order):
                with self.subTest(thing=thing), self.assertRaises(NoOrder):
                    show_order(thing)
        for thing in (None, 0, True, "", "names", "undo", [], ["names"], (), {}, set(), object(), Like()):
            with self.assertRaises(NoOrder):
                show_order(thing)

    def test_what_is_read_is_what_is_written(self):
        chance = random.Random(872)
        parts = [word for text, _ in ORDERS[:34] for word in text.split(" ")] + ["", "0", "a", "1-2", "00", "Z"]
        read = 0
        for _ in range(6000):
            text = " ".join(chance.choice(parts) for _ in range(chance.randint(1, 4)))
            try:
                order = order_of(text)
            except (NoOrder, NoText):
                continue
            self.assertEqual(show_order(order), text)
            read += 1
        self.assertGreater(read, 50)

    def test_kept(self):
        text = "begin a 0-1 2*(3-)"
        first = order_of(text)
        kept = copy.deepcopy(first)
        spoil(first)
        self.assertEqual(order_of(text), kept)
        order = ("begin", "a", [(0, 1), ("again", 2, [(3, None)])])
        self.assertEqual(show_order(order), text)
        self.assertEqual(order, kept)
        order[2][1][2].append((4, 4))
        self.assertEqual(show_order(order), "begin a 0-1 2*(3- 4-4)")
