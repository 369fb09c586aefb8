"""Tables: how many of a row speak truly, of each company; what never comes, what folds; tables put together."""

from boastrow.errors import NoStretches, NoTable, TooMany
from boastrow.levels import (
    added_up, changes_by, least_to_totals, level_at, levelled, levels_along, said_of_company, side_by_side,
)
from boastrow.rows import is_row, need_number, need_row

MOST_FOLDS = 300


def is_table(thing):
    """Whether the thing is a table, a row's or not."""
    if not isinstance(thing, list) or not thing:
        return False
    ahead = -1
    level = None
    for step in thing:
        if not isinstance(step, tuple) or len(step) != 2:
            return False
        c, many = step
        if not isinstance(c, int) or c <= ahead or c is True or c is False:
            return False
        if not isinstance(many, int) or many < 0 or many == level or many is True or many is False:
            return False
        ahead = c
        level = many
    return thing[0][0] == 0


def is_rows(thing):
    """Whether the thing is some row's table."""
    if not is_table(thing):
        return False
    ahead = 0
    for _, many in thing:
        if many < ahead - 1:
            return False
        ahead = many
    return True


def need_table(thing):
    """Refuse what is no table."""
    if not is_table(thing):
        raise NoTable("a list of tuples (c, many) is wanted, c rising from 0")


def need_rows_table(thing):
    """Refuse what is no row's table."""
    if not is_rows(thing):
        raise NoTable("a table that never falls by two is wanted")


def table_of(row):
    """The row's table."""
    need_row(row)
    said = said_of_company(row)
    return added_up(changes_by([stretch for stretch in said if stretch is not None]))


def total_by(table, company):
    """The total at the company, also of a table that is no row's."""
    need_table(table)
    need_number(company)
    return company + level_at(table, company)


def never_comes(table):
    """The totals that come of no company, as stretches."""
    need_rows_table(table)
    out = []
    ahead = 0
    for c, many in table:
        if many > ahead:
            out.append((c + ahead, c + many - 1))
        ahead = many
    return out


def folds(table):
    """The companies that come to the same total as the next one, as stretches."""
    need_rows_table(table)
    out = []
    ahead = 0
    for c, many in table:
        if many < ahead:
            begun = c - 1
            if out and out[-1][1] == c - 2:
                begun = out.pop()[0]
            out.append((begun, c - 1))
        ahead = many
    return out


def is_stretches(thing):
    """Whether the thing is a rising list of stretches, none touching the next one."""
    # By its form a stretch is just what a saying is.
    if not isinstance(thing, list) or not is_row(thing):
        return False
    free = 0
    for first, last in thing:
        if free is None or first < free:
            return False
        free = None if last is None else last + 2
    return True


def need_bounded(thing):
    """Refuse what is no stretches, or goes on without bound."""
    if not is_stretches(thing) or (thing and thing[-1][1] is None):
        raise NoStretches("a rising list of stretches that end is wanted")


def size_of(stretches):
    """How many numbers the stretches have, all of which end."""
    return sum([last - first + 1 for first, last in stretches])


def company_behind(many, folded):
    """The least company below which so many are no folds; folded is the rising list of the folds."""
    company = many - 1
    for c in folded:
        if c > company:
            break
        company += 1
    return company + 1


def table_by(never, folds):
    """("table", table) with just these never-comes and folds, or the paper ("less", c)."""
    need_bounded(never)
    need_bounded(folds)
    many = size_of(folds)
    if many > MOST_FOLDS:
        raise TooMany(many)
    folded = [c for first, last in folds for c in range(first, last + 1)]
    changes = {c + 1: -1 for c in folded}
    skipped = 0
    for first, last in never:
        # Behind a fold the total stays, so no jump falls together with one.
        changes[company_behind(first - skipped, folded)] = last - first + 1
        skipped += last - first + 1
    table = added_up(changes)
    for c, level in table:
        if level < 0:
            return ("less", c)
    return ("table", table)


def joined(front, back):
    """The table of two rows, one standing behind the other."""
    need_rows_table(front)
    need_rows_table(back)
    # Nothing changes but where a step of back begins, or back comes to where one of front does.
    points = sorted(set([c for c, _ in back] + least_to_totals(back, [c for c, _ in front])))
    manies = levels_along(back, points)
    ahead = levels_along(front, [c + many for c, many in zip(points, manies)])
    return levelled([(c, many + more) for c, many, more in zip(points, manies, ahead)])


def greater_of(one, other):
    """The greater of the manies of two rows' tables, at each company."""
    need_rows_table(one)
    need_rows_table(other)
    return levelled([(c, max(many, more)) for c, many, more in side_by_side(one, other)])


def lesser_of(one, other):
    """The lesser of the manies of two rows' tables, at each company."""
    need_rows_table(one)
    need_rows_table(other)
    return levelled([(c, min(many, more)) for c, many, more in side_by_side(one, other)])
