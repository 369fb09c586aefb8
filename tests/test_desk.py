"""Points 89 and 90: the desk, against what the stages tell of rows kept by hand."""

import random
import unittest

from boastrow.apart import least_apart
from boastrow.desk import Desk
from boastrow.errors import NoName, NoneYet, NoOrder, NoPlace, NoText, Taken, TooMany
from boastrow.far import far_speaks, far_total, least_company, stretch_at
from boastrow.fewest import fewest, may_go
from boastrow.halls import Hall
from boastrow.orders import show_order
from boastrow.rounds import tellings
from boastrow.sets import fewest_sets
from boastrow.steps import in_front, step_behind
from boastrow.stretches import lot_of
from boastrow.tables import folds, never_comes, table_of
from boastrow.texts import show_row, show_stretches, show_table
from tests.helper import BIG, GREATEST, some_rows
from tests.long_helper import deep_long
from tests.test_halls import ByHand, some_deed

WRITTEN = {"step_in": "in", "join_to": "join", "say_over": "over", "turn_about": "turn"}
ONE_ROW = ["show", "table", "never", "folds", "lot", "fewest", "gone", "sets"]
TWO_ROWS = ["apart", "front", "behind"]


def as_order(deed):
    """A hall's deed as an order."""
    return show_order((WRITTEN.get(deed[0], deed[0]), *deed[1:]))


def desk_with(rows):
    """A desk at which these rows are begun."""
    desk = Desk()
    for name, row in rows.items():
        assert desk.say(f"begin {name} {show_row(row)}") == "ok"
    return desk


def stretch_text(stretch):
    """A stretch as a desk answers it."""
    return "never" if stretch is None else show_stretches([stretch])


def steps_text(told):
    """What steps.py tells, as a desk answers it."""
    return (show_row(told[1]) or "none") if told[0] == "row" else f"{told[0]} {told[1]}"


def asked_of_one(row):
    """What a desk is to answer of one row."""
    table = table_of(row)
    return {
        "show": show_row(row) or "none", "table": show_table(table), "never": show_stretches(never_comes(table)) or "none",
        "folds": show_stretches(folds(table)) or "none", "fewest": show_row(fewest(row)) or "none",
        "lot": " ".join(stretch_text(stretch) for stretch in lot_of(row)) or "none",
        "gone": " ".join(str(place) for place in may_go(row)) or "none", "sets": str(len(fewest_sets(table)[1])),
    }


def asked_of_two(one, other):
    """What a desk is to answer of two rows."""
    apart = least_apart(table_of(one), table_of(other))
    return {
        "apart": "none" if apart is None else str(apart), "front": steps_text(in_front(table_of(one), table_of(other))),
        "behind": steps_text(step_behind(table_of(one), table_of(other))),
    }


def all_answers(desk):
    """All that is asked of a desk."""
    names = desk.hall().names()
    out = [desk.say("names")]
    for name in names:
        out += [desk.say(f"people {name}"), desk.say(f"total {name} 3"), desk.say(f"least {name} 9")]
        out += [desk.say(f"gained {name} 2"), desk.say(f"round {name} 1")]
        out += [desk.say(f"{word} {name}") for word in ONE_ROW]
        out += [desk.say(f"{word} {name} {other}") for word in TWO_ROWS for other in names]
        for place in range(desk.hall().people(name)):
            out += [desk.say(f"when {name} {place}"), desk.say(f"speaks {name} 2 {place}")]
    return out


class Answers(unittest.TestCase):
    def test_by_hand(self):
        desk = Desk()
        for order, answer in (
            ("names", "none"), ("begin a 1-2 0-0 3- 2-5", "ok"), ("begin nobody ", "ok"), ("names", "a nobody"),
            ("begin far 1000*(0- 3*(2-5 7-))", "ok"), ("names", "a far nobody"), ("people a", "4"), ("people far", "7000"),
            ("people nobody", "0"), ("total a 2", "4"), ("least a 9", "8"), ("speaks a 2 0", "no"), ("speaks a 2 2", "yes"),
            ("when a 0", "0-1"), ("when a 2", "2-"), ("gained a 2", "0"), ("gained far 2", "none"),
            ("show a", "1-2 0-0 3- 2-5"), ("table a", "0:2 1:1 2:2 6:1"), ("never a", "0-1 3-3"), ("folds a", "0-0 5-5"),
            ("lot a", "0-1 0-0 2- 2-5"), ("fewest a", "0-1 0-6 2-"), ("gone a", "none"), ("sets a", "2"),
            ("apart a nobody", "0"), ("apart a a", "none"), ("front a a", "none"), ("front a nobody", "less 0"),
            ("front nobody a", "0-1 0-6 2-"), ("behind nobody a", "0-1 0-6 2-"), ("behind a nobody", "less 0"),
            ("round a 2", "2:1"), ("round nobody 5", "0:1"), ("show nobody", "none"), ("table nobody", "0:0"),
            ("never nobody", "none"), ("folds nobody", "none"), ("lot nobody", "none"), ("fewest nobody", "none"),
            ("gone nobody", "none"), ("sets nobody", "0"), ("in a 0 0-", "ok"), ("gained a 2", "1"), ("go a 0", "ok"),
            ("gained a 2", "-1"), ("resay a 1 0-1", "ok"), ("show a", "1-2 0-1 3- 2-5"), ("cut a 1 tail", "ok"),
            ("show a", "1-2"), ("show tail", "0-1 3- 2-5"), ("turn tail", "ok"), ("show tail", "2-5 3- 0-1"),
            ("join tail a", "ok"), ("show tail", "2-5 3- 0-1 1-2"), ("names", "far nobody tail"), ("over tail 2", "ok"),
            ("show tail", "2-5 3- 0-1 1-2 2-5 3- 0-1 1-2"), ("undo", "ok"), ("undo", "ok"), ("show a", "1-2"),
            ("redo", "ok"), ("redo", "ok"), ("people tail", "8"), ("drop tail", "ok"), ("names", "far nobody"),
            ("begin b 0-0 0-", "ok"), ("when b 0", "never"), ("lot b", "never 0-"), ("gone b", "0"),
            ("begin c 0-0", "ok"), ("round c 0", "1:1"), ("round c 1", "0:1"), ("begin d 0-0 1- 2-", "ok"),
            ("round d 0", "none"), ("round d 1", "2:1"), ("begin e 0-5 0-5", "ok"), ("begin f 0-1 0-0", "ok"),
            ("behind e b", "less 0"), ("begin h 0- 0- 0-", "ok"), ("begin k 1-2 0-0 3- 2-5", "ok"),
            ("behind k h", "never 3"), ("front f nobody", "less 0"), ("begin g 0- 0- 0- 0-3", "ok"),
            ("front f g", "folded 0"),
        ):
            self.assertEqual(desk.say(order), answer, order)

    def test_against_the_stages(self):
        rows = some_rows(891, 14, 9, 8) + [[], [(0, 0), (0, None)], [(3, 9)] * 4]
        names = ["abcdefghijklmnopqr"[at] for at in range(len(rows))]
        desk = desk_with(dict(zip(names, rows)))
        for name, row in zip(names, rows):
            for word, answer in asked_of_one(row).items():
                self.assertEqual(desk.say(f"{word} {name}"), answer)
            for number in (0, 1, 4, 9, BIG):
                self.assertEqual(desk.say(f"total {name} {number}"), str(far_total(row, number)))
                self.assertEqual(desk.say(f"least {name} {number}"), str(least_company(row, number)))
                told = " ".join(f"{true}:{ways}" for true, ways in tellings(row, company=number))
                self.assertEqual(desk.say(f"round {name} {number}"), told or "none")
                for place in range(len(row)):
                    answer = "yes" if far_speaks(row, number, place) else "no"
                    self.assertEqual(desk.say(f"speaks {name} {number} {place}"), answer)
            for place in range(len(row)):
                self.assertEqual(desk.say(f"when {name} {place}"), stretch_text(stretch_at(row, place)))
        for one, first in zip(names, rows):
            for other, second in zip(names[::2], rows[::2]):
                for word, answer in asked_of_two(first, second).items():
                    self.assertEqual(desk.say(f"{word} {one} {other}"), answer)

    def test_deeds_and_asks_by_chance(self):
        for seed in range(6):
            chance = random.Random(892 + seed)
            desk, kept = Desk(), ByHand()
            for _ in range(25):
                deed = some_deed(chance, kept.rows, 9)
                self.assertEqual(desk.say(as_order(deed)), "ok")
                kept.deed(deed)
                self.assertEqual(desk.say("names"), " ".join(sorted(kept.rows)) or "none")
                for name, row in kept.rows.items():
                    self.assertEqual(desk.say(f"people {name}"), str(len(row)))
                    if len(row) <= 300:
                        self.assertEqual(desk.say(f"show {name}"), show_row(row) or "none")
                    gained = desk.hall().gained(name, 4)
                    self.assertEqual(desk.say(f"gained {name} 4"), "none" if gained is None else str(gained))

    def test_far_out(self):
        long = deep_long(895, 4, 12, BIG, 10 ** 6)
        desk = desk_with({"a": long, "b": [("again", GREATEST, [(0, 1)])]})
        for number in (0, 10 ** 20, GREATEST):
            self.assertEqual(desk.say(f"total a {number}"), str(far_total(long, number)))
            self.assertEqual(desk.say(f"least a {number}"), str(least_company(long, number)))
        for place in (0, 5, 10 ** 20):
            self.assertEqual(desk.say(f"when a {place}"), stretch_text(stretch_at(long, place)))
        self.assertEqual(desk.say("people b"), str(GREATEST))
        self.assertEqual(desk.say(f"when b {GREATEST - 1}"), "0-1")
        self.assertEqual(desk.say("when b 5"), "never")


class Refused(unittest.TestCase):
    def refuse(self, desk, order, error, **fields):
        """The order is refused so, and the desk's hall stays as it was."""
        deeds = desk.hall().deeds()
        with self.subTest(order=order), self.assertRaises(ValueError) as caught:
            desk.say(order)
        self.assertIs(caught.exception.__class__, error, order)
        for field, worth in fields.items():
            self.assertEqual(getattr(caught.exception, field), worth)
        self.assertEqual(desk.hall().deeds(), deeds)

    def test_orders_first(self):
        desk = desk_with({"a": [(0, 1)]})
        for order in (None, 0, "", "x", "show", "show a b", "begin", "begin a", "begin A 0-1", "in a 0 1-0", ("names",)):
            self.refuse(desk, order, NoOrder)
        self.refuse(desk, "begin a 1-0", NoText, at=0)
        self.refuse(desk, "begin a 0-1 2*(0-1", NoText, at=2)
        self.refuse(desk, "total b 1 x", NoOrder)

    def test_names_then_too_many(self):
        desk = desk_with({"a": [(0, 1)], "big": [("again", 301, [(0, 1)])], "huge": [("again", GREATEST, [(0, 1)])]})
        for word in ONE_ROW:
            self.refuse(desk, f"{word} b", NoName)
            self.refuse(desk, f"{word} big", TooMany, many=301)
        self.refuse(desk, "round b 3", NoName)
        self.refuse(desk, "round huge 3", TooMany, many=GREATEST)
        for word in TWO_ROWS:
            for pair in ("b a", "a b", "b b", "b big", "big b", "huge b"):
                self.refuse(desk, f"{word} {pair}", NoName)
            for pair, many in (
                ("big a", 301), ("a big", 301), ("big huge", 301), ("huge big", GREATEST), ("huge a", GREATEST),
            ):
                self.refuse(desk, f"{word} {pair}", TooMany, many=many)
        for order in (
            "people b", "total b 1", "least b 1", "speaks b 1 9", "when b 9", "gained b 1", "in b 9 0-1", "go b 9",
            "resay b 9 0-1", "cut b 9 a", "cut b 9 c", "join b a", "join a b", "join b b", "over b 2", "turn b", "drop b",
        ):
            self.refuse(desk, order, NoName)
        desk.say("go big 0")
        self.assertEqual(desk.say("show big"), " ".join(["0-1"] * 300))

    def test_as_the_hall_and_the_stages_refuse(self):
        desk = desk_with({"a": [(0, 1)], "b": [(0, 0)], "huge": [("again", GREATEST, [(0, 1)])]})
        for order, error in (
            ("begin a 0-1", Taken), ("cut a 0 b", Taken), ("cut a 9 b", Taken), ("cut a 2 c", NoPlace), ("join a a", Taken),
            ("in a 2 0-1", NoPlace), ("go a 1", NoPlace), ("resay a 1 0-1", NoPlace), ("speaks a 5 1", NoPlace),
            ("when a 1", NoPlace), ("in huge 0 0-1", TooMany), ("join a huge", TooMany), ("over huge 2", TooMany),
            ("redo", NoneYet),
        ):
            self.refuse(desk, order, error)
        desk.say("begin x " + " ".join(f"{300 * at}-{300 * at}" for at in range(150)))
        desk.say("begin y 300*(0-)")
        self.assertEqual(desk.say("behind x x"), "none")

    def test_undo_and_redo(self):
        desk = Desk()
        self.refuse(desk, "undo", NoneYet)
        self.refuse(desk, "redo", NoneYet)
        desk.say("begin a 0-1")
        desk.say("over a 3")
        for answer in ("0-1", "none"):
            self.assertEqual(desk.say("undo"), "ok")
            self.assertEqual(desk.say("show a") if desk.hall().names() else "none", answer)
        self.refuse(desk, "undo", NoneYet)
        self.assertEqual([desk.say("redo"), desk.say("redo"), desk.say("people a")], ["ok", "ok", "3"])
        self.refuse(desk, "redo", NoneYet)
        desk.say("undo")
        desk.say("turn a")
        self.refuse(desk, "redo", NoneYet)


class TheHall(unittest.TestCase):
    def grown(self, seed):
        """A desk at which some deeds were done, some of them undone."""
        chance = random.Random(seed)
        desk, kept = Desk(), ByHand()
        for _ in range(20):
            deed = some_deed(chance, {name: row for name, row in kept.rows.items()}, 9)
            if deed[0] == "say_over" and len(kept.rows[deed[1]]) * deed[2] > 60:
                continue
            desk.say(as_order(deed))
            kept.deed(deed)
        for _ in range(3):
            desk.say("undo")
        return desk

    def test_what_is_done_to_the_twin(self):
        desk = self.grown(896)
        answers = all_answers(desk)
        hall = desk.hall()
        self.assertIsInstance(hall, Hall)
        hall.begin("twin", [(1, 1)])
        for name in hall.names():
            hall.turn_about(name)
            hall.drop(name)
        self.assertEqual(all_answers(desk), answers)
        self.assertEqual(desk.say("redo"), "ok")
        desk.say("undo")
        hall = desk.hall()
        for _ in range(len(hall.deeds())):
            hall.undo()
        self.assertEqual(all_answers(desk), answers)
        desk.say("begin mine 0-")
        self.assertEqual(hall.names(), [])

    def test_its_deeds_told_to_another_desk(self):
        for seed in range(897, 903):
            desk, other = self.grown(seed), Desk()
            for deed in desk.hall().deeds():
                self.assertEqual(other.say(as_order(deed)), "ok")
            self.assertEqual(all_answers(other), all_answers(desk))
            self.assertEqual(other.hall().deeds(), desk.hall().deeds())
