"""Rows: who speaks truly, what each hears, and rows made anew. Also what refuses numbers, sayings, rows, places."""

from boastrow.errors import NoNumber, NoPlace, NoRow, NoSaying


def is_number(thing):
    """Whether the thing is a whole number from 0 on."""
    return isinstance(thing, int) and not isinstance(thing, bool) and thing >= 0


def is_row(thing):
    """Whether the thing is a list or tuple of sayings."""
    if not isinstance(thing, (list, tuple)):
        return False
    # All in one loop, without is_number: a row is looked at whole with each thing that is asked of it.
    for saying in thing:
        if not isinstance(saying, tuple) or len(saying) != 2:
            return False
        least, most = saying
        if not isinstance(least, int) or least < 0 or least is True or least is False:
            return False
        if most is not None and (not isinstance(most, int) or most < least or most is True or most is False):
            return False
    return True


def is_saying(thing):
    """Whether the thing is a tuple (least, most)."""
    return is_row([thing])


def need_number(thing):
    """Refuse what is no number."""
    if not is_number(thing):
        raise NoNumber("a whole number from 0 on is wanted")


def need_saying(thing):
    """Refuse what is no saying."""
    if not is_saying(thing):
        raise NoSaying("a tuple (least, most) is wanted")


def need_row(thing):
    """Refuse what is no row."""
    if not is_row(thing):
        raise NoRow("a list or tuple of sayings is wanted")


def need_place(thing, places):
    """Refuse what is none of so many places."""
    if not is_number(thing) or thing >= places:
        raise NoPlace("a place of the row is wanted")


def walk(row, company):
    """What comes from each place on, the row's length at last; the row and the company are looked at already."""
    out = [company]
    many = company
    for least, most in reversed(row):
        if least <= many and (most is None or many <= most):
            many += 1
        out.append(many)
    return out[::-1]


def what_comes(people, company):
    """How many of these people and of the company speak truly; both are looked at already."""
    many = company
    for least, most in reversed(people):
        if least <= many and (most is None or many <= most):
            many += 1
    return many


def words(row, company):
    """Who speaks truly, front first."""
    need_row(row)
    need_number(company)
    coming = walk(row, company)
    return [coming[place] > coming[place + 1] for place in range(len(row))]


def heard(row, company):
    """What each person hears, front first."""
    need_row(row)
    need_number(company)
    return walk(row, company)[1:]


def total(row, company):
    """How many speak truly, row and company together."""
    need_row(row)
    need_number(company)
    return what_comes(row, company)


def comes(row, company, place):
    """How many speak truly of those from the place on, the company with them."""
    need_row(row)
    need_number(company)
    need_place(place, len(row) + 1)
    return what_comes(row[place:], company)


def put_in(row, place, saying):
    """The row with the saying put in ahead of the place, or at the back."""
    need_row(row)
    need_place(place, len(row) + 1)
    need_saying(saying)
    return list(row[:place]) + [saying] + list(row[place:])


def taken(row, place):
    """The row without the person at the place."""
    need_row(row)
    need_place(place, len(row))
    return list(row[:place]) + list(row[place + 1:])


def changed(row, place, saying):
    """The row with another saying at the place."""
    need_row(row)
    need_place(place, len(row))
    need_saying(saying)
    return list(row[:place]) + [saying] + list(row[place + 1:])


def parted(row, place):
    """The row parted: those ahead of the place, and those from it on."""
    need_row(row)
    need_place(place, len(row) + 1)
    return (list(row[:place]), list(row[place:]))
