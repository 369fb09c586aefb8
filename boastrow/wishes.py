"""Wishes: that so many at least speak truly, handed on from the front to the back."""

from boastrow.errors import NoSaying
from boastrow.levels import companies_within, handed_on, wish_behind
from boastrow.rows import is_saying, need_number, need_place, need_row


def wishes(row, many):
    """The wish as each person has it, front first, and at last as it comes to the company."""
    need_row(row)
    need_number(many)
    out = [many]
    for saying in row:
        out.append(handed_on(saying, out[-1]))
    return out


def companies(row, total):
    """The companies by which the total is just this one: a stretch, or None."""
    need_row(row)
    need_number(total)
    return companies_within(row, (total, total))


def companies_between(row, least, most):
    """The companies by which the total is at least the one and at most the other: a stretch, or None."""
    need_row(row)
    if not is_saying((least, most)):
        raise NoSaying("a number is wanted, and one not below it, or None")
    return companies_within(row, (least, most))


def least_from(row, place, many):
    """The least company by which so many at least of those behind the first people, and of it, speak truly."""
    need_row(row)
    need_place(place, len(row) + 1)
    need_number(many)
    return wish_behind(row[place:], many)
