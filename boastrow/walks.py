"""Walks along a row: whom a person sways, how many speak truly between places, and from where on so many do."""

from boastrow.errors import NoPlace
from boastrow.rows import need_number, need_place, need_row, walk, what_comes, words


def swayed(row, company, place):
    """The places whom the person at the place sways, and the total as it would be."""
    need_row(row)
    need_number(company)
    need_place(place, len(row))
    told = words(row, company)
    behind = what_comes(row[place + 1:], company)
    # To those ahead all who stand from the place on are but a company, which the other word changes by one.
    other = behind if told[place] else behind + 1
    ahead = row[:place]
    turned = words(ahead, other)
    places = [at for at in range(place) if turned[at] != told[at]]
    return (places, what_comes(ahead, other))


def true_between(row, company, first, *, last=None):
    """How many of the people from first to one ahead of last speak truly; last left out: to the back."""
    need_row(row)
    need_number(company)
    need_place(first, len(row) + 1)
    if last is None:
        last = len(row)
    need_place(last, len(row) + 1)
    if last < first:
        raise NoPlace("the second place is ahead of the first one")
    coming = walk(row, company)
    return coming[first] - coming[last]


def hindmost(row, company, many):
    """The hindmost place from which on so many of the row speak truly, or None."""
    need_row(row)
    need_number(company)
    need_number(many)
    coming = walk(row, company)
    for place in range(len(row), -1, -1):
        if coming[place] - company >= many:
            return place
    return None
