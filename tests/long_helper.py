"""What the tests of long rows share: long rows said over by hand, samples, wrong things."""

import random

from tests.helper import BIG, GREATEST, WRONG_NUMBERS, WRONG_SAYINGS, some_saying

# What is no tuple ("again", many, long row), as one thing within a long row.
WRONG_AGAINS = [
    ("again",), ("again", 2), ("again", 2, [], []), ["again", 2, []], ("Again", 2, []), ("again ", 2, []), (2, 2, []),
    (None, 2, []), ("again", 2, None), ("again", 2, (0, 1)), ("again", 2, ""), ("again", 2, "ab"), ("again", 2, {}),
    ("again", 2, set()), ("again", 0, None), ("again", 2, [None]), ("again", 2, [(0, 1), (1, 0)]), (b"again", 2, []),
    ("again", 2, [("again", 2, [(0, 1), 3])]), ("again", 0, [("again", -1, [])]), ("again", [], []), ("again", 2, [[]]),
] + [("again", wrong, [(0, 1)]) for wrong in WRONG_NUMBERS if wrong != 0]
TOO_LONG = [
    [("again", 10 ** 30, [(0, 1)])], [("again", 10 ** 15, (("again", 10 ** 15, [(0, 1)]),))],
    [("again", GREATEST, [(0, 1)]), (0, 1)], [("again", 5 * 10 ** 29, [(0, 1), (0, None)])],
    [("again", BIG, [(0, 1)] * 11)], [("again", 1, [("again", GREATEST, [(0, 0)])]), ("again", 1, [(0, 0)])],
]
WRONG_LONGS = [
    None, 0, True, "", "ab", b"", {}, set(), object(), (0, 1), (0, None), ("again", 2, [(0, 1)]), [0, 1], [[]], [()],
    [[(0, 1)]], {(0, 1): 1}, [(0, 1), None], (one for one in [(0, 1)]),
] + [[wrong] for wrong in WRONG_AGAINS] + [[(0, 1), wrong] for wrong in WRONG_SAYINGS] + TOO_LONG


def lay_by_hand(long):
    """The long row said over, one time behind the other."""
    out = []
    for thing in long:
        if len(thing) == 2:
            out.append(thing)
        else:
            for _ in range(thing[1]):
                out += lay_by_hand(thing[2])
    return out


def written_in(long):
    """The sayings as they are written."""
    out = []
    for thing in long:
        out += [thing] if len(thing) == 2 else written_in(thing[2])
    return out


def numbered(long, first=0):
    """The long row with (number, number) in the place of each written saying."""
    out = []
    for thing in long:
        if len(thing) == 2:
            out.append((first, first))
            first += 1
        else:
            out.append(("again", thing[1], numbered(thing[2], first)))
            first += len(written_in(thing[2]))
    return out


def whose_by_hand(long):
    """(number, time) of each person of the row laid out, front first."""
    said = {}
    out = []
    for number, _ in reversed(lay_by_hand(numbered(long))):
        out.append((number, said.get(number, 0)))
        said[number] = said.get(number, 0) + 1
    return out[::-1]


def times_written(long, times=1):
    """How many times each of the sayings, as they are written, is said."""
    out = []
    for thing in long:
        out += [times] if len(thing) == 2 else times_written(thing[2], times * thing[1])
    return out


def some_long(chance, depth, things, top, times):
    """A long row, lists and tuples, of agains within one another up to so deep."""
    out = []
    for _ in range(chance.randint(0, things)):
        if depth and chance.random() < 0.4:
            out.append(("again", chance.randint(0, times), some_long(chance, depth - 1, things, top, times)))
        else:
            out.append(some_saying(chance, top))
    return out if chance.random() < 0.7 else tuple(out)


def some_longs(seed, count, depth=3, things=5, top=9, times=4, most=250):
    """So many long rows of at most so many people: the same ones for the same seed."""
    chance = random.Random(seed)
    out = []
    while len(out) < count:
        long = some_long(chance, depth, things, top, times)
        if len(lay_by_hand(long)) <= most:
            out.append(long)
    return out


def deep_long(seed, depth, sayings, top, times):
    """A long row of agains within one another so deep, of so many sayings each; somebody always speaks truly."""
    chance = random.Random(seed)
    out = []
    for _ in range(depth + 1):
        inner = [("again", times, out)] if out else []
        at = chance.randint(0, sayings)
        row = [some_saying(chance, top) for _ in range(sayings)]
        out = row[:at] + inner + row[at:] + [(0, None)]
    return out


def nested(depth, times, long):
    """The long row within so many agains, each said so many times."""
    for _ in range(depth):
        long = [("again", times, long)]
    return long
