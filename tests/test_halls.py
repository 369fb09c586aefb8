"""Points 76 to 84: halls, against rows kept by hand."""

import copy
import random
import unittest
from unittest import mock

from boastrow.errors import NoDeed, NoLong, NoName, NoNumber, NoPlace, NoSaying, NoneYet, Taken, TooMany
from boastrow.far import far_speaks, far_total, least_company
from boastrow.halls import Hall
from boastrow.powers import is_long, people_in, saying_at
from tests.helper import (
    BIG, GREATEST, WRONG_NUMBERS, WRONG_SAYINGS, Like, some_saying, spoil, wrong_places,
)
from tests.long_helper import WRONG_LONGS, deep_long, lay_by_hand, some_longs
from tests.test_far import walked_far

WRONG_NAMES = [
    None, 0, True, "", "A", "aB", "a1", "a b", " a", "a ", "a\n", "abcdefghi", "\u00e4", "a\u00df", "\u0430", b"a", 1.0,
    ("a",), ["a"], {"a"}, {"a": 1}, object(), Like(), "-", "_", "a" * 100,
]
NAMES = ["a", "b", "cc", "abcdefgh"]
LONG = [(0, 1), ("again", 3, [(2, None), ("again", 2, ((1, 1), (0, 0)))]), (5, 6)]
WORDS = ["begin", "step_in", "go", "resay", "cut", "join_to", "say_over", "turn_about", "drop"]


class ByHand:
    """The same as a hall, with rows that are lists: the names and rows behind each deed, one behind the other."""

    def __init__(self):
        self.states = [{}]
        self.at = 0

    @property
    def rows(self):
        return self.states[self.at]

    def deed(self, deed):
        """Do a deed that is not refused."""
        rows = {name: list(row) for name, row in self.rows.items()}
        word, name, *left = deed
        if word == "begin":
            rows[name] = lay_by_hand(left[0])
        elif word == "step_in":
            rows[name].insert(left[0], left[1])
        elif word == "go":
            del rows[name][left[0]]
        elif word == "resay":
            rows[name][left[0]] = left[1]
        elif word == "cut":
            rows[left[1]] = rows[name][left[0]:]
            del rows[name][left[0]:]
        elif word == "join_to":
            rows[name] += rows.pop(left[0])
        elif word == "say_over":
            rows[name] = rows[name] * left[0]
        elif word == "turn_about":
            rows[name].reverse()
        else:
            del rows[name]
        self.states = self.states[:self.at + 1] + [rows]
        self.at += 1


def some_deed(chance, rows, top):
    """A deed that is not refused, of rows kept by hand."""
    there = sorted(rows)
    free = [name for name in NAMES if name not in rows]
    word = chance.choice(WORDS + ["step_in", "step_in", "cut"]) if there else "begin"
    if word == "begin" and not free or word == "cut" and not free or word == "join_to" and len(there) < 2:
        word = "turn_about"
    if word == "begin":
        return ("begin", chance.choice(free), [some_saying(chance, top) for _ in range(chance.randint(0, 30))])
    name = chance.choice(there)
    many = len(rows[name])
    if word in ("go", "resay") and not many or word == "say_over" and many > 300:
        word = "step_in"
    if word == "step_in":
        return (word, name, chance.choice([0, many, chance.randint(0, many)]), some_saying(chance, top))
    if word == "go":
        return (word, name, chance.choice([0, many - 1, chance.randint(0, many - 1)]))
    if word == "resay":
        return (word, name, chance.randint(0, many - 1), some_saying(chance, top))
    if word == "cut":
        return (word, name, chance.choice([0, many, chance.randint(0, many)]), chance.choice(free))
    if word == "join_to":
        return (word, name, chance.choice([other for other in there if other != name]))
    return (word, name, chance.randint(0, 3)) if word == "say_over" else (word, name)


def call_deed(hall, deed):
    """Do a deed by the method of its word."""
    return getattr(hall, deed[0])(*deed[1:])


def snapshot(hall):
    """All that a hall tells of itself."""
    names = hall.names()
    told = [(name, hall.people(name), hall.long_row(name), hall.total(name, 3), hall.gained(name, 2)) for name in names]
    return (names, told, hall.deeds(), len(hall))


class Deeds(unittest.TestCase):
    def check(self, hall, kept, chance, top):
        rows = kept.rows
        self.assertEqual((hall.names(), len(hall)), (sorted(rows), len(rows)))
        for name, row in rows.items():
            self.assertEqual(hall.people(name), len(row))
            self.assertEqual(lay_by_hand(hall.long_row(name)), row)
            company = chance.randint(0, top)
            words, _, total = walked_far(row, company)
            self.assertEqual(hall.total(name, company), total)
            least = hall.least(name, company + 3)
            self.assertGreaterEqual(walked_far(row, least)[2], company + 3)
            self.assertTrue(least == 0 or walked_far(row, least - 1)[2] < company + 3)
            for place in {0, len(row) - 1, chance.randint(0, len(row))} & set(range(len(row))):
                self.assertIs(hall.speaks(name, company, place), words[place])
                self.assertEqual(hall.saying(name, place), row[place])
            ahead = kept.states[kept.at - 1].get(name) if kept.at else None
            wanted = None if ahead is None else total - walked_far(ahead, company)[2]
            self.assertEqual(hall.gained(name, company), wanted)

    def go_on(self, seed, deeds, top):
        """Deeds by chance, and now and then some undone and done again."""
        chance = random.Random(seed)
        hall, kept = Hall(), ByHand()
        for _ in range(deeds):
            if chance.random() < 0.2:
                for _ in range(chance.randint(1, 5)):
                    back = chance.random() < 0.6
                    if (back and kept.at > 0) or (not back and kept.at + 1 < len(kept.states)):
                        self.assertIsNone(hall.undo() if back else hall.redo())
                        kept.at += -1 if back else 1
                    else:
                        self.assertRaises(NoneYet, hall.undo if back else hall.redo)
            else:
                deed = some_deed(chance, kept.rows, top)
                self.assertIsNone(call_deed(hall, deed))
                kept.deed(deed)
            self.check(hall, kept, chance, top)

    def test_against_rows_kept_by_hand(self):
        for seed in range(20):
            self.go_on(761 + seed, 40, (8, 60)[seed % 2])

    def test_the_same_when_few_are_not_walked(self):
        with mock.patch("boastrow.crowds.FEW", -1), mock.patch("boastrow.crowds.OFTEN", -1):
            for seed in range(20):
                self.go_on(791 + seed, 40, (8, 60)[seed % 2])

    def test_one_by_one(self):
        hall = Hall()
        self.assertEqual((hall.names(), len(hall), hall.deeds()), ([], 0, []))
        self.assertIsNone(hall.begin("a", LONG))
        row = lay_by_hand(LONG)
        for place in range(len(row) + 1):
            self.assertIsNone(hall.step_in("a", place, (7, 7)))
            self.assertEqual(lay_by_hand(hall.long_row("a")), row[:place] + [(7, 7)] + row[place:])
            self.assertIsNone(hall.go("a", place))
            self.assertEqual(lay_by_hand(hall.long_row("a")), row)
        for place in range(len(row)):
            hall.resay("a", place, (9, None))
            self.assertEqual(lay_by_hand(hall.long_row("a")), row[:place] + [(9, None)] + row[place + 1:])
            hall.undo()
        for place in range(len(row) + 1):
            self.assertIsNone(hall.cut("a", place, "b"))
            self.assertEqual([lay_by_hand(hall.long_row(name)) for name in "ab"], [row[:place], row[place:]])
            self.assertIsNone(hall.join_to("b", "a"))
            self.assertEqual((hall.names(), lay_by_hand(hall.long_row("b"))), (["b"], row[place:] + row[:place]))
            hall.undo()
            hall.undo()
        for many in (0, 1, 2, 40):
            self.assertIsNone(hall.say_over("a", many))
            self.assertEqual(lay_by_hand(hall.long_row("a")), row * many)
            self.assertIsNone(hall.turn_about("a"))
            self.assertEqual(lay_by_hand(hall.long_row("a")), (row * many)[::-1])
            hall.undo()
            hall.undo()
        self.assertIsNone(hall.drop("a"))
        self.assertEqual((hall.names(), len(hall)), ([], 0))
        hall.begin("a", [])
        self.assertEqual(hall.people("a"), 0)

    def test_rows_changed_behind_begin(self):
        inner = [(1, 1)]
        long = [(0, None), ("again", 2, inner)]
        hall = Hall()
        hall.begin("a", long)
        hall.begin("b", tuple(long))
        told = snapshot(hall)
        inner.append((0, 0))
        long[:] = []
        self.assertEqual(snapshot(hall), told)
        self.assertEqual(hall.deeds()[0], ("begin", "a", [(0, None), ("again", 2, [(1, 1)])]))
        names = ["a", "b"]
        hall.together(names, 3)
        self.assertEqual(names, ["a", "b"])

    def test_twenty_names_and_three_hundred_deeds(self):
        chance = random.Random(765)
        hall = Hall()
        names = [first + second for first in "abcd" for second in "vwxyz"]
        for name in names:
            hall.begin(name, [some_saying(chance, 50) for _ in range(200)])
        self.assertEqual((hall.names(), len(hall)), (sorted(names), 20))
        overs = 0
        for deed in range(280):
            name = names[deed % 20]
            if deed % 23 == 0 and overs < 12:
                hall.say_over(name, 2000)
                overs += 1
            else:
                hall.step_in(name, hall.people(name) * (deed % 7) // 7, some_saying(chance, 50))
        self.assertEqual(len(hall.deeds()), 300)
        for name in names[:5]:
            long = hall.long_row(name)
            self.assertEqual(hall.people(name), people_in(long))
            self.assertEqual(hall.total(name, 4), far_total(long, 4))
        for _ in range(300):
            hall.undo()
        self.assertEqual((hall.names(), hall.deeds()), ([], []))
        for _ in range(300):
            hall.redo()
        self.assertEqual(len(hall.deeds()), 300)

    def test_a_dozen_times_said_over_and_parted_each_time(self):
        hall = Hall()
        hall.begin("a", [("again", 60, [(0, None), (3, 500), (BIG, None), (7, 10 ** 9), (0, 10 ** 20), (2, 2)])])
        hall.begin("b", [])
        for turn in range(12):
            hall.say_over("a", 90 + turn)
            people = hall.people("a")
            hall.step_in("a", people // 3, (10 ** turn, 10 ** (2 * turn)))
            hall.cut("a", people // 2, "c")
            hall.join_to("c", "a")
            hall.cut("c", hall.people("c"), "a")
            hall.join_to("a", "c")
        people = hall.people("a")
        self.assertGreater(people, 10 ** 25)
        total = hall.total("a", 5)
        for place in (people // 7, people // 2, people - 5):
            hall.cut("a", place, "d")
            self.assertEqual(hall.together(["a", "d"], 5), total)
            self.assertEqual(hall.together(["a", "b", "d", "b"], 5), total)
            hall.join_to("a", "d")
            self.assertEqual(hall.total("a", 5), total)
        least = hall.least("a", BIG)
        self.assertTrue(hall.total("a", least) >= BIG and (least == 0 or hall.total("a", least - 1) < BIG))


class Far(unittest.TestCase):
    def test_nearly_ten_to_the_thirty_people(self):
        for long in (
            [("again", GREATEST // 4, [(0, BIG), (5, None), (0, 10 ** 20)])], deep_long(766, 8, 8, BIG, 1500),
            deep_long(767, 2, 30, 10 ** 27, 10 ** 13),
        ):
            hall = Hall()
            hall.begin("a", long)
            people = people_in(long)
            self.assertEqual(hall.people("a"), people)
            for place in (0, 1, people // 3, people - 1):
                self.assertEqual(hall.saying("a", place), saying_at(long, place))
            for company in (0, 10 ** 20, BIG):
                self.assertEqual(hall.total("a", company), far_total(long, company))
                self.assertEqual(hall.least("a", company), least_company(long, company))
                for place in (0, people // 3, people - 1):
                    self.assertIs(hall.speaks("a", company, place), far_speaks(long, company, place))
            for place in (0, people // 5, people - 1, people):
                hall.step_in("a", place, (0, None))
                told = hall.long_row("a")
                self.assertTrue(is_long(told))
                self.assertEqual(people_in(told), hall.people("a"))
                self.assertEqual(hall.saying("a", place), (0, None))
                for company in (0, 10 ** 20, BIG):
                    self.assertEqual(hall.total("a", company), far_total(told, company))
                hall.cut("a", place, "b")
                self.assertEqual(hall.together(["a", "b"], 3), far_total(told, 3))
                hall.undo()
                hall.undo()

    def test_turned_about_far_out(self):
        long = deep_long(768, 4, 10, BIG, 10 ** 6)
        hall = Hall()
        hall.begin("a", long)
        people = people_in(long)
        hall.turn_about("a")
        for place in (0, 1, people // 7, people - 1):
            self.assertEqual(hall.saying("a", place), saying_at(long, people - 1 - place))
        self.assertEqual(hall.total("a", 5), far_total(hall.long_row("a"), 5))
        hall.turn_about("a")
        self.assertEqual(hall.total("a", 5), far_total(long, 5))
        turned = Hall()
        turned.begin("a", long)
        turned.turn_about("a")
        self.assertEqual(hall.gained("a", 5), far_total(long, 5) - turned.total("a", 5))

    def test_too_many(self):
        hall = Hall()
        hall.begin("a", [("again", GREATEST, [(0, 1)])])
        hall.begin("b", [(0, 0)])
        told = snapshot(hall)
        for deed, many in (
            (("step_in", "a", GREATEST, (0, 0)), 10 ** 30), (("step_in", "a", 0, (0, 0)), 10 ** 30),
            (("join_to", "a", "b"), 10 ** 30), (("join_to", "b", "a"), 10 ** 30), (("say_over", "a", 2), 2 * GREATEST),
            (("say_over", "a", GREATEST), GREATEST * GREATEST), (("say_over", "b", 10 ** 30), 10 ** 30),
        ):
            with self.assertRaises(TooMany) as caught:
                call_deed(hall, deed)
            self.assertEqual(caught.exception.many, many)
            self.assertEqual(snapshot(hall), told)
        hall.go("a", 5)
        hall.join_to("b", "a")
        self.assertEqual(hall.people("b"), GREATEST)
        hall.say_over("b", 1)
        hall.say_over("b", 0)
        hall.say_over("b", GREATEST)
        self.assertEqual(hall.people("b"), 0)


class Refused(unittest.TestCase):
    def setUp(self):
        self.hall = Hall()
        self.hall.begin("a", LONG)
        self.hall.begin("b", [(0, 0), (1, 1)])
        self.hall.begin("full", [("again", GREATEST, [(0, 1)])])
        self.hall.step_in("b", 0, (3, 3))
        self.hall.undo()

    def refuse(self, error, *deed):
        """The deed is refused so, as a method and as a tuple, and all stays as it was, what is undone, too."""
        told = snapshot(self.hall)
        tries = [lambda: call_deed(self.hall, deed)]
        if deed[0] in WORDS:
            tries.append(lambda: self.hall.do(deed))
        for call in tries:
            with self.subTest(deed=deed), self.assertRaises(ValueError) as caught:
                call()
            self.assertIs(caught.exception.__class__, error, deed)
        self.assertEqual(snapshot(self.hall), told)
        twin = self.hall.twin()
        twin.redo()
        self.assertEqual(twin.deeds()[-1], ("step_in", "b", 0, (3, 3)))

    def test_names_that_are_none_or_not_there(self):
        for name in WRONG_NAMES:
            self.refuse(NoName, "begin", name, None)
            self.refuse(NoName, "cut", "a", None, name)
        for name in WRONG_NAMES + ["c", "aa"]:
            self.refuse(NoName, "step_in", name, None, None)
            self.refuse(NoName, "go", name, None)
            self.refuse(NoName, "resay", name, None, None)
            self.refuse(NoName, "cut", name, None, None)
            self.refuse(NoName, "cut", name, None, "a")
            self.refuse(NoName, "join_to", name, name)
            self.refuse(NoName, "join_to", name, "a")
            self.refuse(NoName, "join_to", "a", name)
            self.refuse(NoName, "say_over", name, None)
            self.refuse(NoName, "turn_about", name)
            self.refuse(NoName, "drop", name)
            for ask in ("people", "long_row"):
                self.refuse(NoName, ask, name)
            for ask in ("saying", "total", "least", "gained"):
                self.refuse(NoName, ask, name, None)
            self.refuse(NoName, "speaks", name, None, None)
            for names in ([name], ["a", name], ["a", "b", name, "a"], (name, "a")):
                self.refuse(NoName, "together", names, None)

    def test_names_that_are_taken(self):
        for name in ("a", "b"):
            self.refuse(Taken, "begin", name, None)
            self.refuse(Taken, "begin", name, LONG)
            self.refuse(Taken, "cut", "a", None, name)
            self.refuse(Taken, "cut", "a", 0, name)
            self.refuse(Taken, "join_to", name, name)
        self.refuse(Taken, "join_to", "full", "full")

    def test_what_else_is_handed_in(self):
        for long in WRONG_LONGS:
            self.refuse(NoLong, "begin", "c", long)
        for place in wrong_places(18):
            self.refuse(NoPlace, "step_in", "a", place, None)
            self.refuse(NoPlace, "step_in", "a", place, (0, 1))
            self.refuse(NoPlace, "cut", "a", place, "c")
        for place in wrong_places(17):
            self.refuse(NoPlace, "go", "a", place)
            self.refuse(NoPlace, "resay", "a", place, None)
            self.refuse(NoPlace, "saying", "a", place)
            self.refuse(NoPlace, "speaks", "a", 3, place)
        for saying in WRONG_SAYINGS:
            self.refuse(NoSaying, "step_in", "a", 17, saying)
            self.refuse(NoSaying, "step_in", "full", 17, saying)
            self.refuse(NoSaying, "resay", "a", 16, saying)
        for number in WRONG_NUMBERS:
            self.refuse(NoNumber, "say_over", "full", number)
            self.refuse(NoNumber, "total", "a", number)
            self.refuse(NoNumber, "least", "a", number)
            self.refuse(NoNumber, "gained", "a", number)
            self.refuse(NoNumber, "speaks", "a", number, None)
            self.refuse(NoNumber, "together", ["a", "b"], number)
            self.refuse(NoNumber, "together", (), number)
        self.refuse(TooMany, "step_in", "full", 0, (0, 1))
        self.refuse(TooMany, "join_to", "a", "full")
        self.refuse(TooMany, "say_over", "full", 2)

    def test_together_of_what_is_no_list(self):
        for names in (None, 0, True, "", "a", "ab", {"a"}, {"a": 1}, object(), Like(), (name for name in "ab")):
            self.refuse(NoName, "together", names, None)

    def test_no_deeds(self):
        told = snapshot(self.hall)
        things = [
            None, 0, True, "", "drop", {}, set(), [], (), ("drop",), ["drop", "a"], ("drop", "a", 1), ("Drop", "a"),
            ("undo",), ("redo",), ("undo", "a"), ("redo", "a"), ("names",), ("people", "a"), ("twin",), ("deeds",),
            ("do", ("drop", "a")), ("begin", "c"), ("begin", "c", [], 1), ("step_in", "a", 0), ("go", "a"), ("go", "a", 0, 0),
            ("resay", "a", 0), ("cut", "a", 0), ("cut", "a", 0, "c", 0), ("join_to", "a"), ("say_over", "a"),
            ("turn_about",), ("turn_about", "a", 1), ("in", "a", 0, (0, 1)), ("join", "a", "b"), ("over", "a", 2),
            ("turn", "a"), (b"drop", "a"), (Like(), "a"), Like(), (None, "a"), ([], "a"), ({}, "a"), (("drop",), "a"),
            ("__init__",), ("total", "a", 3), object(),
        ]
        for thing in things:
            with self.assertRaises(NoDeed):
                self.hall.do(thing)
        self.assertEqual(snapshot(self.hall), told)


class UndoneAndToldAgain(unittest.TestCase):
    def grown(self, seed, deeds=25):
        """(hall, states, deeds): a hall with some deeds, all that it told behind each, the first behind none."""
        chance = random.Random(seed)
        hall, kept, told, done = Hall(), ByHand(), [], []
        told.append(snapshot(hall))
        for _ in range(deeds):
            deed = some_deed(chance, kept.rows, 9)
            hall.do(deed)
            kept.deed(deed)
            done.append(deed)
            told.append(snapshot(hall))
        return hall, told, done

    def test_undo_and_redo_to_both_ends(self):
        for seed in (801, 802, 803):
            hall, told, _ = self.grown(seed)
            for _ in range(2):
                for state in told[-2::-1]:
                    self.assertIsNone(hall.undo())
                    self.assertEqual(snapshot(hall), state)
                self.assertRaises(NoneYet, hall.undo)
                self.assertEqual(snapshot(hall), told[0])
                for state in told[1:]:
                    self.assertIsNone(hall.redo())
                    self.assertEqual(snapshot(hall), state)
                self.assertRaises(NoneYet, hall.redo)
                self.assertEqual(snapshot(hall), told[-1])

    def test_none_yet_at_first(self):
        hall = Hall()
        self.assertRaises(NoneYet, hall.undo)
        self.assertRaises(NoneYet, hall.redo)
        hall.begin("a", [])
        self.assertRaises(NoneYet, hall.redo)

    def test_a_new_deed_leaves_none_to_be_done_again(self):
        hall, _, _ = self.grown(804)
        for _ in range(5):
            hall.undo()
        hall.begin("new", [(1, 1)])
        self.assertRaises(NoneYet, hall.redo)
        hall.undo()
        hall.redo()
        self.assertEqual(hall.deeds()[-1], ("begin", "new", [(1, 1)]))
        self.assertRaises(NoneYet, hall.redo)

    def test_a_refused_deed_leaves_what_is_undone(self):
        hall, told, _ = self.grown(805)
        hall.undo()
        self.assertRaises(NoName, hall.drop, "gone")
        self.assertRaises(NoDeed, hall.do, ("undo",))
        hall.redo()
        self.assertEqual(snapshot(hall), told[-1])

    def test_deeds_told_and_done_by_another_hall(self):
        for seed in range(806, 816):
            hall, told, done = self.grown(seed)
            self.assertEqual(hall.deeds(), done)
            self.assertTrue(all(isinstance(deed, tuple) for deed in hall.deeds()))
            for _ in range(4):
                hall.undo()
            self.assertEqual(hall.deeds(), done[:-4])
            other = Hall()
            for deed in hall.deeds():
                self.assertIsNone(other.do(deed))
            self.assertEqual(snapshot(other), snapshot(hall))
            self.assertEqual(snapshot(other), told[-5])

    def test_long_rows_in_deeds_are_lists(self):
        hall = Hall()
        hall.begin("a", ((0, 1), ("again", 2, ((2, None), ("again", 0, ()))), ("again", 3, [(1, 1)])))
        wanted = [("begin", "a", [(0, 1), ("again", 2, [(2, None), ("again", 0, [])]), ("again", 3, [(1, 1)])])]
        self.assertEqual(hall.deeds(), wanted)
        spoil(hall.deeds())
        self.assertEqual(hall.deeds(), wanted)

    def test_what_is_told_is_the_askers_own(self):
        hall, told, _ = self.grown(817)
        kept = copy.deepcopy(told[-1])
        spoil(hall.names())
        spoil(hall.deeds())
        for name in hall.names():
            spoil(hall.long_row(name))
        self.assertEqual(snapshot(hall), kept)

    def test_twins(self):
        for seed in (818, 819):
            hall, told, _ = self.grown(seed)
            for _ in range(6):
                hall.undo()
            kept = snapshot(hall)
            twin = hall.twin()
            self.assertIsInstance(twin, Hall)
            self.assertEqual(snapshot(twin), kept)
            for state in told[-6:]:
                twin.redo()
                self.assertEqual(snapshot(twin), state)
            self.assertEqual(snapshot(hall), kept)
            hall.begin("new", LONG)
            self.assertEqual(snapshot(twin), told[-1])
            for _ in range(len(told) - 1):
                twin.undo()
            self.assertEqual(snapshot(twin), told[0])
            self.assertEqual(hall.deeds()[-1][0], "begin")
            again = hall.twin()
            again.drop("new")
            self.assertIn("new", hall.names())
            self.assertNotIn("new", again.names())

    def test_gained(self):
        hall = Hall()
        hall.begin("a", [(0, None), (0, None)])
        self.assertIsNone(hall.gained("a", 3))
        hall.begin("b", [(1, 1)])
        self.assertEqual((hall.gained("a", 3), hall.gained("b", 3)), (0, None))
        hall.step_in("a", 2, (0, None))
        self.assertEqual((hall.gained("a", 3), hall.gained("b", 3)), (1, 0))
        hall.say_over("a", 0)
        self.assertEqual(hall.gained("a", BIG), -3)
        hall.undo()
        self.assertEqual(hall.gained("a", BIG), 1)
        hall.join_to("a", "b")
        self.assertEqual((hall.gained("a", 0), hall.gained("a", 1)), (0, 1))
        hall.cut("a", 1, "b")
        self.assertEqual((hall.gained("a", 1), hall.gained("b", 1)), (-3, None))
        hall.drop("b")
        self.assertEqual(hall.gained("a", 1), 0)
        hall.begin("b", [])
        self.assertIsNone(hall.gained("b", 1))

    def test_gained_by_one_who_steps_in(self):
        for long in some_longs(820, 30, 2, 4, 9, 3, 40):
            hall = Hall()
            hall.begin("a", long)
            for company in range(8):
                hall.step_in("a", hall.people("a"), (company, company))
                more = hall.gained("a", company)
                hall.undo()
                self.assertLessEqual(more, hall.total("a", company + 1) - hall.total("a", company))
                hall.step_in("a", 0, (company, None))
                self.assertIn(hall.gained("a", company), (0, 1))
                hall.undo()

    def test_together(self):
        hall = Hall()
        rows = {"a": [(0, 3), (2, 5)], "b": [], "c": lay_by_hand(LONG)}
        for name, row in rows.items():
            hall.begin(name, row)
        for names in ([], (), ["a"], ["a", "a"], ("c", "a", "b", "c"), ["b"] * 300, ["a", "c"] * 50):
            row = [saying for name in names for saying in rows[name]]
            for company in (0, 2, 7, BIG):
                self.assertEqual(hall.together(names, company), walked_far(row, company)[2])
