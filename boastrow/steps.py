"""Stepping in so that a row acts as another one: between two rows, in front, or behind; and what was left of a row."""

from boastrow.between import moves, need_three, needed, paper_against, table_moved
from boastrow.errors import NoPlace
from boastrow.rows import need_number, need_row
from boastrow.tables import table_of
from boastrow.wished import first_fewest

NOBODY = (0, 0)


def step_between(front, back, wished):
    """("row", row) with the fewest people who step in between front and back, or a paper that nobody does."""
    need_three(front, back, wished)
    paper = paper_against(front, back, wished)
    if paper is not None:
        return paper
    return ("row", first_fewest(table_moved(moves(front, back, wished))))


def in_front(now, wished):
    """("row", row) with the fewest people who step in front, or a paper that nobody does."""
    return step_between([NOBODY], now, wished)


def step_behind(now, wished):
    """("row", row) with the fewest people who step in behind, or a paper that nobody does."""
    return step_between(now, [NOBODY], wished)


def need_part(row, many):
    """Refuse what is no row, no number, or more than the row has people."""
    need_row(row)
    need_number(many)
    if many > len(row):
        raise NoPlace("there are not so many people")


def left_front(row, many):
    """The table of the row without its first people, so many."""
    need_part(row, many)
    return table_of(row[many:])


def spare_front(row, many):
    """How many fewer people in front do the same as the row's first ones, so many."""
    return many - needed([NOBODY], left_front(row, many), table_of(row))


def spare_behind(row, many):
    """How many fewer people behind do the same as the row's last ones, so many."""
    need_part(row, many)
    return many - needed(table_of(row[:len(row) - many]), [NOBODY], table_of(row))
