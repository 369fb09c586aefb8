"""What several tests share: rows walked one by one, samples, wrong things, and how refusals are looked at."""

import copy
import itertools
import random

BIG = 10 ** 29 + 12345
GREATEST = 10 ** 30 - 1


class Like:
    """A thing that says of itself that it is equal to anything."""

    def __eq__(self, other):
        return True

    def __ne__(self, other):
        return False


WRONG_NUMBERS = [-1, -BIG, True, False, None, "1", "", b"1", 1.0, 1j, (1,), [1], {}, object(), Like()]
WRONG_SAYINGS = [
    None, 3, True, "", "12", (), (1,), (1, 2, 3), [1, 2], (2, 1), (1, 0), (-1, 2), (-2, -1), (None, 1), (None, None),
    (True, 2), (0, True), (False, None), (0, False), ("1", "2"), (1, "2"), (0, 1.0), (1.0, None), {1: 2}, ((1, 2),),
    (BIG, BIG - 1), object(),
]
WRONG_ROWS = [
    None, 3, 0, True, "", "ab", {}, {(1, 2): 1}, set(), (1, 2), (1, None), [1, 2], [None], [()], [[1, 2]], [(1,)],
    [(1, 2, 3)], [(2, 1)], [(-1, 2)], [(True, 2)], [(0, 1), (0, False)], [(0, 1), None], ((0, 1), [0, 1]),
    [(0, 1), "01"], [[]], [[(0, 1)]], ((), ()), (one for one in [(0, 1)]), object(),
]
WRONG_TABLES = [
    None, 0, True, "", "ab", {}, {0: 0}, set(), [], (), ((0, 0),), [0, 0], [None], [[0, 0]], [()], [(0,)], [(0, 0, 0)],
    [(1, 0)], [(0, -1)], [(-1, 0)], [(0, None)], [(None, 0)], [(False, 0)], [(0, False)], [(0, True)], [(0, "0")],
    [(0, 0.0)], [(0.0, 0)], [(0, 0), (1, 0)], [(0, 0), (2, 1), (2, 0)], [(0, 0), (2, 1), (1, 2)], [(0, 1), (0, 2)],
    [(0, 0), (3, 1), (5, 1)], [(0, 0), [1, 1]], [(0, 0), (1, 1), 2], [(0, 0), (True, 1)], object(),
]
FALLING = [[(0, 2), (1, 0)], [(0, 0), (4, 5), (9, 3)], [(0, 3), (1, 2), (2, 0)], [(0, BIG), (BIG, BIG - 2)]]
WRONG_SHELVES = [
    None, 0, True, "", "ab", {}, {0: 1}, set(), (), ((0, 1),), (0, 1), [0, 1], [None], [[0, 1]], [()], [(0,)], [(1,)],
    [(0, 1, 2)], [(0, 0)], [(1, 1)], [(7, 1)], [(BIG, 1)], [(0, 1), (3, 1)], [(2, 0), (2, 2)], [(3, 0), (2, 2)],
    [(0, 1), (0, 2)], [(-1, 2)], [(2, -1)], [(True, 2)], [(2, False)], [(2, True)], [(False, 1)], [("2", 0)], [(2, "0")],
    [(2, 0.0)], [(2.0, 0)], [(2, None)], [(None, 2)], [(2, 0), [3, 0]], [(2, 0), 3], object(),
]

# What has a None, and else stretches alone, is a lot in its own order, but none where a lot of stretches is due.
NONES = [[None], (None,), [(0, 1), None], (None, (0, 1)), [(0, 1)] * 199 + [None]]
WRONG_ORDERED = [thing for thing in WRONG_ROWS if thing not in NONES] + [[None, 3], (None, [0, 1])]
WRONG_LOTS = WRONG_ORDERED + NONES


def wrong_papers(word):
    """What is no tuple of just this word and a number."""
    other = "ends" if word != "ends" else "bare"
    return [
        None, 0, True, "", word, {}, set(), [], (), (word,), (word, 0, 0), [word, 0], (other, 0), (word.title(), 0),
        (word + " ", 0), (0, word), (0, 0), (None, 0), ((word,), 0), ({}, 0), ([], 0), (word.encode(), 0), (Like(), 0),
        Like(), object(),
    ] + [(word, wrong) for wrong in WRONG_NUMBERS]


def wrong_places(places):
    """What is none of so many places."""
    return WRONG_NUMBERS + [places, places + 1, places + BIG]


def walked(row, company):
    """(words, heard, total) as everybody is asked in turn, the one at the back first."""
    words, heard = {}, {}
    for place in range(len(row) - 1, -1, -1):
        behind = [words[other] for other in range(place + 1, len(row))]
        heard[place] = behind.count(True) + company
        least, most = row[place]
        words[place] = heard[place] >= least and not (most is not None and heard[place] > most)
    order = range(len(row))
    return [words[at] for at in order], [heard[at] for at in order], company + list(words.values()).count(True)


def walked_total(row, company):
    """The total, asked in turn."""
    return walked(row, company)[2]


def many_in(table, company):
    """The many of a table at a company, searched from the front."""
    told = None
    for c, many in table:
        if c <= company:
            told = many
    return told


def numbers_in(stretches):
    """All numbers of stretches that end."""
    return [number for first, last in stretches for number in range(first, last + 1)]


def as_stretches(numbers):
    """Rising numbers as stretches."""
    out = []
    for number in numbers:
        if out and out[-1][1] == number - 1:
            out[-1] = (out[-1][0], number)
        else:
            out.append((number, number))
    return out


def some_saying(chance, top):
    """A saying of numbers up to top, now and then without bound."""
    least = chance.randint(0, top)
    return (least, None if chance.random() < 0.2 else least + chance.randint(0, top // 2))


def some_rows(seed, count, people, top):
    """So many rows of up to so many people, each saying of numbers up to top: the same ones for the same seed."""
    chance = random.Random(seed)
    return [[some_saying(chance, top) for _ in range(chance.randint(0, people))] for _ in range(count)]


def none_behind(things):
    """The key of sayings, stretches, or lists of such, as told things are compared: None behind each number."""
    if things is None:
        return (1, 0)
    return (0, things) if isinstance(things, int) else [none_behind(one) for one in things]


def sayings_to(top):
    """All sayings of numbers up to top, in order, None behind each number."""
    return [(least, most) for least in range(top + 1) for most in list(range(least, top + 1)) + [None]]


def rows_to(people, top):
    """All rows of just so many people and of numbers up to top, in order."""
    return [list(row) for row in itertools.product(sayings_to(top), repeat=people)]


def holds(stretch, c):
    """Whether the stretch, perhaps None, holds the number."""
    return stretch is not None and stretch[0] <= c and (stretch[1] is None or c <= stretch[1])


def in_stretches(stretches, c):
    """Whether one of the stretches holds the number."""
    return any(holds(stretch, c) for stretch in stretches)


def stretches_where(truths):
    """The numbers at which truth stands in a list, as stretches; what stands last stands for ever."""
    out = []
    for c, truth in enumerate(truths):
        if truth and c and truths[c - 1]:
            out[-1] = (out[-1][0], c)
        elif truth:
            out.append((c, c))
    if truths[-1]:
        out[-1] = (out[-1][0], None)
    return out


def check_stretches(test, stretches):
    """They rise, and none touches the next one."""
    test.assertIsInstance(stretches, list)
    for one, other in zip(stretches, stretches[1:]):
        test.assertGreater(other[0], one[1] + 1)
    for stretch in stretches:
        test.assertIsInstance(stretch, tuple)
        test.assertTrue(0 <= stretch[0] and (stretch[1] is None or stretch[0] <= stretch[1]))


def long_row(seed, top, people=200):
    """A row of just so many people."""
    chance = random.Random(seed)
    return [some_saying(chance, top) for _ in range(people)]


def some_tables(seed, count, steps, gap):
    """So many tables of rows, of up to so many steps; by turns they rise far and fall by ones."""
    chance = random.Random(seed)
    out = []
    for _ in range(count):
        table = [(0, chance.randint(0, 4))]
        for _ in range(chance.randint(0, steps - 1)):
            c, many = table[-1]
            falls = many > 0 and chance.random() < 0.6
            table.append((c + chance.randint(1, gap), many - 1 if falls else many + chance.randint(1, 5)))
        out.append(table)
    return out


def long_table(many, start=0, gap=1):
    """A row's table of just so many steps, which goes up by two and down by one again and again."""
    table = [(0, 0)]
    for step in range(1, many):
        table.append((start + step * gap, table[-1][1] + (2 if step % 2 else -1)))
    return table


def near(numbers, reach=2):
    """All numbers from 0 on that are near one of these, rising."""
    found = set()
    for number in numbers:
        found.update(range(max(0, number - reach), number + reach + 1))
    return sorted(found)


def numbers_of(row):
    """The numbers that stand in the sayings of a row, 0 too."""
    return [0] + [number for saying in row for number in saying if number is not None]


def check_refusals(test, call, good, faults):
    """Each argument by itself, and with all later ones wrong as well, is refused with the class that is due to it.

    good are arguments that do; faults tell, for each of them, what is wrong in its stead, and the class.
    """
    call(*good)
    for at, (wrongs, error) in enumerate(faults):
        for wrong in wrongs:
            alone = list(good)
            alone[at] = wrong
            behind = alone[:at + 1] + [later[0] for later, _ in faults[at + 1:]]
            for args in (alone, behind):
                with test.subTest(call=call.__name__, args=args):
                    with test.assertRaises(ValueError) as caught:
                        call(*args)
                    test.assertIs(caught.exception.__class__, error)


def check_own(test, call, args, changed):
    """What is told is new each time and the asker's own; what is handed in stays, and may be changed for later.

    changed are the same arguments, those that are lists with other contents.
    """
    args = copy.deepcopy(args)
    before = copy.deepcopy(args)
    with test.subTest(call=call.__name__, args=args):
        first = call(*args)
        kept = copy.deepcopy(first)
        test.assertEqual(args, before)
        spoil(first)
        test.assertEqual(args, before)
        test.assertEqual(call(*args), kept)
        later = call(*args)
        for arg, other in zip(args, changed):
            if isinstance(arg, list):
                arg[:] = other
        test.assertEqual(later, kept)
        test.assertEqual(call(*args), call(*changed))
        test.assertNotEqual(kept, call(*changed))


def spoil(told):
    """Change every list in what was told, the inner ones first."""
    if isinstance(told, (list, tuple)):
        for one in told:
            spoil(one)
    if isinstance(told, list):
        told.append("spoiled")
        told.reverse()
