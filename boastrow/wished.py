"""Wished tables: the first of the fewest rows that have one, and how it is peeled person by person."""

from boastrow.errors import TooMany
from boastrow.levels import least_to_total, level_at, levelled
from boastrow.rows import is_saying
from boastrow.tables import folds, need_rows_table, need_table

MOST_PEOPLE = 300


def need_few(people):
    """Refuse to tell of more people than may be told of."""
    if people > MOST_PEOPLE:
        raise TooMany(people)


def rises(table):
    """The tuples (c, many): at c the table rises by many."""
    out = []
    ahead = 0
    for c, many in table:
        if many > ahead:
            out.append((c, many - ahead))
        ahead = many
    return out


def people_needed(table):
    """How few people have a row's table: as many as totals never come."""
    return sum([more for _, more in rises(table)])


def least_fall(table):
    """The least c from which to the next number the table falls by two or more, or None."""
    for one, other in zip(table, table[1:]):
        if other[1] < one[1] - 1:
            return other[0] - 1
    return None


def first_fewest(table):
    """The first of the fewest rows with a row's table: what peeling it again and again comes to."""
    # Behind those who go ahead all is level up to the next rise, so the least total that never comes is its c.
    leasts = [c for c, more in rises(table) for _ in range(more)]
    # Each takes the hindmost company off the first totals that come again, and these totals are one less then.
    mosts = []
    for first, last in folds(table):
        total = first + level_at(table, first)
        mosts += [total - 1 - at for at in range(last - first + 1)]
    mosts += [None] * (len(leasts) - len(mosts))
    return list(zip(leasts, mosts))


def row_of(table):
    """("row", row), the first of the fewest rows with this table, or the paper ("falls", c)."""
    need_table(table)
    c = least_fall(table)
    if c is not None:
        return ("falls", c)
    need_few(people_needed(table))
    return ("row", first_fewest(table))


def how_few(table):
    """How many people the fewest rows with a row's table have."""
    need_rows_table(table)
    return people_needed(table)


def peeled(table):
    """(saying, table): the front person of the first fewest row, and the table without it; None of nobody."""
    need_rows_table(table)
    risen = rises(table)
    if not risen:
        return None
    begin = risen[0][0]
    end = None
    most = None
    folded = folds(table)
    if folded:
        end = folded[0][1] + 1
        most = end + level_at(table, end) - 1
    rest = [(c, many - 1 if begin <= c and (end is None or c < end) else many) for c, many in table]
    return ((begin, most), levelled(rest))


def may_lead(table, thing):
    """Whether the thing, anything, is the front person's saying in some fewest row with a row's table."""
    need_rows_table(table)
    if not is_saying(thing):
        return False
    least, most = thing
    begin = least_to_total(table, least)
    if begin + level_at(table, begin) == least:
        return False
    end = None
    if most is not None:
        # It ends where a total comes twice: by the second company the total is no more what it says.
        end = least_to_total(table, most + 1)
        if end + level_at(table, end) != most + 1 or end + 1 + level_at(table, end + 1) != most + 1:
            return False
    # Each of the companies it is true by has somebody to spare.
    return all([many > 0 for c, many in table if begin <= c and (end is None or c <= end)])
