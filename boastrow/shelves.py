"""The shelf: an endless row of books with rising numbers, and the things that are done to it."""

from boastrow.errors import NoBook, NoDeed, NoneYet, NoShelf, NoTable, TooMany
from boastrow.levels import added_up, stretch_to
from boastrow.rows import is_number, need_number, need_saying
from boastrow.tables import need_rows_table, table_of

MOST_DEEDS = 300


def plain_copies(number):
    """How many books of the number the plain shelf has."""
    return 0 if number == 0 else 1


def is_mark(thing):
    """Whether the thing is a tuple (number, copies), with other copies than the plain shelf's."""
    if not isinstance(thing, tuple) or len(thing) != 2:
        return False
    return is_number(thing[0]) and is_number(thing[1]) and thing[1] != plain_copies(thing[0])


def is_shelf(thing):
    """Whether the thing is a rising list of such tuples."""
    if not isinstance(thing, list) or not all([is_mark(one) for one in thing]):
        return False
    return all([one[0] < other[0] for one, other in zip(thing, thing[1:])])


def is_deed(thing):
    """Whether the thing is ("double", m), or ("strike", m) of a book that stands there."""
    if not isinstance(thing, tuple) or len(thing) != 2 or not isinstance(thing[0], str) or not is_number(thing[1]):
        return False
    return thing[0] == "double" or (thing[0] == "strike" and thing[1] > 0)


def need_shelf(thing):
    """Refuse what is no shelf."""
    if not is_shelf(thing):
        raise NoShelf("a rising list of tuples (number, copies) is wanted, with other copies than the plain shelf's")


def need_book(thing, least):
    """Refuse what is no number of a book from the least one on."""
    if not is_number(thing) or thing < least:
        raise NoBook("the number of a book is wanted")


def find_book(shelf, m):
    """The number of book m: the least one up to which there are so many books, so 0 of book 0."""
    more = 0
    for number, copies in shelf:
        # Ahead of this number there stand as many books as numbers from 1 on, and those more.
        if m <= number - 1 + more:
            return m - more
        more += copies - plain_copies(number)
        if m <= number + more:
            return number
    return m - more


def count_to(shelf, number):
    """How many books have numbers up to this one."""
    return number + sum([copies - plain_copies(at) for at, copies in shelf if at <= number])


def with_more(shelf, number, more):
    """The shelf with so many more books of the number."""
    copies = dict(shelf)
    copies[number] = copies.get(number, plain_copies(number)) + more
    return [(at, copies[at]) for at in sorted(copies) if copies[at] != plain_copies(at)]


def book(shelf, m):
    """The number of book m, counted from the left; of book 0 it is 0."""
    need_shelf(shelf)
    need_book(m, 0)
    return find_book(shelf, m)


def books_to(shelf, number):
    """How many books have numbers up to this one."""
    need_shelf(shelf)
    need_number(number)
    return count_to(shelf, number)


def shelf_of(row):
    """The shelf of a row: up to each company as many books as is the total by it."""
    return shelf_by(table_of(row))


def shelf_by(table):
    """The shelf of a row's table."""
    need_rows_table(table)
    out = []
    ahead = 0
    for c, many in table:
        if many != ahead:
            out.append((c, plain_copies(c) + many - ahead))
        ahead = many
    return out


def table_of_shelf(shelf):
    """The table of a shelf that is a row's."""
    need_shelf(shelf)
    table = added_up({number: copies - plain_copies(number) for number, copies in shelf})
    if any([many < 0 for _, many in table]):
        raise NoTable("up to some number there are fewer books than that number")
    return table


def led(shelf, deeds):
    """The shelf behind a list of deeds, done one behind the other."""
    need_shelf(shelf)
    if not isinstance(deeds, list) or not all([is_deed(one) for one in deeds]):
        raise NoDeed("a list of tuples (double, m) and (strike, m) is wanted, m of strike from 1 on")
    out = list(shelf)
    for word, m in deeds:
        out = with_more(out, find_book(out, m), 1 if word == "double" else -1)
    return out


def copies_apart(one, other):
    """The tuples (number, copies of one, copies of other) where these are unlike, rising."""
    had = dict(one)
    wanted = dict(other)
    out = []
    for number in sorted(set(list(had) + list(wanted))):
        plain = plain_copies(number)
        if had.get(number, plain) != wanted.get(number, plain):
            out.append((number, had.get(number, plain), wanted.get(number, plain)))
    return out


def deeds_between(one, other):
    """("deeds", list), as few as lead the one shelf to the other, or ("gone", number) where none do."""
    need_shelf(one)
    need_shelf(other)
    gaps = copies_apart(one, other)
    for number, had, _ in gaps:
        if number > 0 and had == 0:
            return ("gone", number)
    many = sum([abs(wanted - had) for _, had, wanted in gaps])
    if many > MOST_DEEDS:
        raise TooMany(many)
    deeds = []
    # From the right on, so that what is done leaves all books further left where they were.
    for number, had, wanted in reversed(gaps):
        last = count_to(one, number)
        if wanted > had:
            deeds += [("double", last)] * (wanted - had)
        else:
            # Book by book the first one of the number goes, and the next one stands in its place.
            deeds += [("strike", last - had + 1)] * (had - wanted)
    return ("deeds", deeds)


class Shelf:
    """A shelf that things are done to, one deed behind the other."""

    def __init__(self, *, shelf=None):
        if shelf is None:
            shelf = []
        need_shelf(shelf)
        self._shelf = list(shelf)
        # Of each deed what it changed: a list of tuples (number, how many books more).
        self._deeds = []

    def _do(self, changes):
        """Do a deed."""
        for number, more in changes:
            self._shelf = with_more(self._shelf, number, more)
        self._deeds.append(changes)

    def double(self, m):
        """Put in one more book of the number of book m, behind it; of m 0 a book of 0."""
        need_book(m, 0)
        self._do([(find_book(self._shelf, m), 1)])

    def strike(self, m):
        """Take book m away."""
        need_book(m, 1)
        self._do([(find_book(self._shelf, m), -1)])

    def enter(self, saying):
        """Somebody steps in front; told is by which companies they speak truly, a stretch, or None."""
        need_saying(saying)
        least, most = saying
        first = find_book(self._shelf, least)
        if most is None:
            self._do([(first, 1)])
            return stretch_to(first, None)
        beyond = find_book(self._shelf, most + 1)
        self._do([(first, 1), (beyond, -1)])
        return stretch_to(first, beyond)

    def undo(self):
        """Take back the last deed that is not taken back."""
        if not self._deeds:
            raise NoneYet("there is no deed to take back")
        changes = self._deeds.pop()
        for number, more in changes:
            self._shelf = with_more(self._shelf, number, -more)

    def told(self):
        """The shelf as a list."""
        return list(self._shelf)

    def number_of(self, m):
        """The number of book m."""
        need_book(m, 0)
        return find_book(self._shelf, m)

    def many_to(self, number):
        """How many books have numbers up to this one."""
        need_number(number)
        return count_to(self._shelf, number)

    def __eq__(self, other):
        return isinstance(other, Shelf) and self._shelf == other._shelf

    def __len__(self):
        return len(self._deeds)
