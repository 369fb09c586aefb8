"""Lots: what the people of a row say of the company, in any order; rows that say it, and lots paired anew."""

from boastrow.errors import NoLot
from boastrow.levels import added_up, changes_by
from boastrow.rows import is_row
from boastrow.standing import Standing


def is_lot(thing):
    """Whether the thing is a list or tuple of stretches."""
    # By its form a stretch is just what a saying is.
    return is_row(thing)


def need_lot(thing):
    """Refuse what is no lot."""
    if not is_lot(thing):
        raise NoLot("a list or tuple of stretches is wanted")


def need_ordered(thing):
    """Refuse what is no lot, where None may stand for who never speaks truly."""
    if not isinstance(thing, (list, tuple)) or not is_lot([one for one in thing if one is not None]):
        raise NoLot("a list or tuple of stretches and Nones is wanted")


def by_first(stretch):
    """The key by which stretches are sorted, None behind each number."""
    first, last = stretch
    return (first, 1, 0) if last is None else (first, 0, last)


def by_last(stretch):
    """The key by which stretches are sorted by their lasts, of like lasts by their firsts."""
    first, last = stretch
    return (1, 0, first) if last is None else (0, last, first)


def lot_table(lot):
    """The table of how many of the lot's stretches hold c."""
    need_lot(lot)
    return added_up(changes_by(lot))


def too_many_ends(stretches):
    """The tuples (c, many), rising, where many more end at c than one and those that begin at the next number."""
    changed = changes_by(stretches)
    return [(c - 1, -changed[c] - 1) for c in sorted(changed) if changed[c] < -1]


def stood(lot):
    """(row, None): the first row with just this lot; or (None, place): the greatest place of who can't say so."""
    standing = Standing()
    row = []
    for place in range(len(lot) - 1, -1, -1):
        saying = standing.saying_for(lot[place])
        if saying is None:
            return (None, place)
        row.append(saying)
        standing.put(lot[place])
    return (row[::-1], None)


def row_for(lot):
    """("row", row) with this lot, sorted by its lasts, or ("ends", c) where the lot is no row's."""
    need_lot(lot)
    barred = too_many_ends(lot)
    if barred:
        return ("ends", barred[0][0])
    # In this order none begins or ends where those behind it come to a total twice, so that each can stand.
    return ("row", stood(sorted(lot, key=by_last))[0])


def row_in_order(lot):
    """("row", row), the first row with just this lot, or ("bare", place), the greatest place of who can't say so."""
    need_ordered(lot)
    row, place = stood(lot)
    return ("row", row) if place is None else ("bare", place)


def ends_of(lot):
    """The lasts of those that end, rising."""
    return sorted([last for _, last in lot if last is not None])


def paired(pairs, left):
    """The lot of these pairs, and of what has no end, sorted."""
    return sorted(pairs + [(first, None) for first in left], key=by_first)


def nested(lot):
    """The lot paired anew: each end meets the begin that came last and is not met."""
    need_lot(lot)
    begins = sorted([first for first, _ in lot])
    pairs = []
    waiting = []
    at = 0
    for last in ends_of(lot):
        while at < len(begins) and begins[at] <= last:
            waiting.append(begins[at])
            at += 1
        pairs.append((waiting.pop(), last))
    return paired(pairs, waiting + begins[at:])


def crossed(lot):
    """The lot paired anew: each end meets the begin that came first and is not met."""
    need_lot(lot)
    begins = sorted([first for first, _ in lot])
    ends = ends_of(lot)
    return paired(list(zip(begins, ends)), begins[len(ends):])


def bars(lot):
    """The tuples (c, many), rising, where many more end at c than one and those that begin at the next number."""
    need_lot(lot)
    return too_many_ends(lot)


def more_for(lot):
    """The fewest stretches which, put to the lot, let it be a row's, sorted."""
    need_lot(lot)
    return [(c + 1, None) for c, many in too_many_ends(lot) for _ in range(many)]
