"""Halls: long rows kept by names, and the deeds that are done to them."""

from boastrow.climbs import come_of, speaks_in, wish_of
from boastrow.crowds import (
    crowd_of, long_of, put_together, row_crowd, said_over, saying_in, split_crowd, turned_about,
)
from boastrow.errors import NoDeed, NoName, NoneYet, Taken, TooMany
from boastrow.names import is_name
from boastrow.powers import PEOPLE_BOUND, copied, need_long
from boastrow.rows import need_number, need_place, need_saying

# Each deed's word, and how many things are handed in to do it.
DEEDS = {
    "begin": 2, "step_in": 3, "go": 2, "resay": 3, "cut": 3, "join_to": 2, "say_over": 2, "turn_about": 1, "drop": 1,
}


def is_deed(thing):
    """Whether the thing is a tuple of a deed's word and as many things as that is handed."""
    if not isinstance(thing, tuple) or not thing or not isinstance(thing[0], str):
        return False
    return thing[0] in DEEDS and len(thing) == DEEDS[thing[0]] + 1


def told_deed(deed):
    """A deed as it is told: the long row that is begun is a new one each time."""
    return ("begin", deed[1], copied(deed[2])) if deed[0] == "begin" else deed


def need_new_name(thing):
    """Refuse what is no name."""
    if not is_name(thing):
        raise NoName("a text of one to eight small letters is wanted")


def need_room(people):
    """Refuse so many people as no row can have."""
    if people >= PEOPLE_BOUND:
        raise TooMany(people)


class Hall:
    """Long rows by their names; each deed that is done can be undone, and done again."""

    def __init__(self):
        # The rows by their names, as crowds, which never change: each deed makes a new dict, and the old one is kept.
        self._rows = {}
        # The deeds that are not undone, each with the rows ahead of it; those undone, each with the rows behind it.
        self._done = []
        self._undone = []

    def named(self, name):
        """The people of a row, as a crowd."""
        if not is_name(name) or name not in self._rows:
            raise NoName("the name of a row that is there is wanted")
        return self._rows[name]

    def _need_free(self, name):
        """Refuse a name that is there."""
        if name in self._rows:
            raise Taken("there is a row of this name")

    def _deed(self, deed, changes):
        """The deed is done: each row of the changes, a dict, is another one now; None of one that is gone."""
        self._done.append((deed, self._rows))
        self._undone = []
        rows = {name: crowd for name, crowd in self._rows.items() if name not in changes}
        for name, crowd in changes.items():
            if crowd is not None:
                rows[name] = crowd
        self._rows = rows

    def begin(self, name, long):
        """Begin a new row."""
        need_new_name(name)
        self._need_free(name)
        need_long(long)
        self._deed(("begin", name, copied(long)), {name: crowd_of(long)})

    def step_in(self, name, place, saying):
        """A person steps in ahead of the one at the place, or behind all."""
        crowd = self.named(name)
        need_place(place, crowd.size + 1)
        need_saying(saying)
        need_room(crowd.size + 1)
        front, back = split_crowd(crowd, place)
        crowd = put_together(put_together(front, row_crowd([saying])), back)
        self._deed(("step_in", name, place, saying), {name: crowd})

    def go(self, name, place):
        """The person at the place goes."""
        crowd = self.named(name)
        need_place(place, crowd.size)
        front, left = split_crowd(crowd, place)
        self._deed(("go", name, place), {name: put_together(front, split_crowd(left, 1)[1])})

    def resay(self, name, place, saying):
        """The person at the place says another thing from now on."""
        crowd = self.named(name)
        need_place(place, crowd.size)
        need_saying(saying)
        front, left = split_crowd(crowd, place)
        crowd = put_together(put_together(front, row_crowd([saying])), split_crowd(left, 1)[1])
        self._deed(("resay", name, place, saying), {name: crowd})

    def cut(self, name, place, other):
        """Those from the place on stand as a new row by the other name."""
        crowd = self.named(name)
        need_new_name(other)
        self._need_free(other)
        need_place(place, crowd.size + 1)
        front, back = split_crowd(crowd, place)
        self._deed(("cut", name, place, other), {name: front, other: back})

    def join_to(self, name, other):
        """The other's people stand behind the first's, and the other's name is free."""
        front = self.named(name)
        back = self.named(other)
        if name == other:
            raise Taken("a row cannot stand behind itself")
        need_room(front.size + back.size)
        self._deed(("join_to", name, other), {name: put_together(front, back), other: None})

    def say_over(self, name, many):
        """The row is said over so many times."""
        crowd = self.named(name)
        need_number(many)
        need_room(crowd.size * many)
        self._deed(("say_over", name, many), {name: said_over(crowd, many)})

    def turn_about(self, name):
        """Who stood last stands in front, and so on."""
        self._deed(("turn_about", name), {name: turned_about(self.named(name))})

    def drop(self, name):
        """The row is there no more."""
        self.named(name)
        self._deed(("drop", name), {name: None})

    def undo(self):
        """Take back the last deed that is not undone."""
        if not self._done:
            raise NoneYet("there is no deed to take back")
        deed, rows = self._done.pop()
        self._undone.append((deed, self._rows))
        self._rows = rows

    def redo(self):
        """Do again the last deed undone, where no other one was done behind it."""
        if not self._undone:
            raise NoneYet("there is no deed to do again")
        deed, rows = self._undone.pop()
        self._done.append((deed, self._rows))
        self._rows = rows

    def names(self):
        """The names of the rows, rising."""
        return sorted(self._rows)

    def people(self, name):
        """How many people the row has."""
        return self.named(name).size

    def saying(self, name, place):
        """The saying of the person at the place."""
        crowd = self.named(name)
        need_place(place, crowd.size)
        return saying_in(crowd, place)

    def total(self, name, company):
        """How many speak truly, row and company together."""
        crowd = self.named(name)
        need_number(company)
        return come_of(crowd, company, crowd.size)

    def least(self, name, total):
        """The least company by which the total is at least this one."""
        crowd = self.named(name)
        need_number(total)
        return wish_of(crowd, total, crowd.size)

    def speaks(self, name, company, place):
        """Whether the person at the place speaks truly."""
        crowd = self.named(name)
        need_number(company)
        need_place(place, crowd.size)
        return speaks_in(crowd, company, place)

    def long_row(self, name):
        """A long row that, laid out, is the row laid out."""
        return long_of(self.named(name))

    def together(self, names, company):
        """The total of the rows, each behind the one ahead of it in the list."""
        if not isinstance(names, (list, tuple)):
            raise NoName("a list or tuple of names is wanted")
        crowds = [self.named(name) for name in names]
        need_number(company)
        many = company
        for crowd in reversed(crowds):
            many = come_of(crowd, many, crowd.size)
        return many

    def deeds(self):
        """The deeds that are not undone, in order."""
        return [told_deed(deed) for deed, _ in self._done]

    def do(self, deed):
        """Do a deed that is told as a tuple."""
        if not is_deed(deed):
            raise NoDeed("a tuple of a deed's word and what it is handed is wanted")
        word = deed[0]
        if word == "begin":
            self.begin(deed[1], deed[2])
        elif word == "step_in":
            self.step_in(deed[1], deed[2], deed[3])
        elif word == "go":
            self.go(deed[1], deed[2])
        elif word == "resay":
            self.resay(deed[1], deed[2], deed[3])
        elif word == "cut":
            self.cut(deed[1], deed[2], deed[3])
        elif word == "join_to":
            self.join_to(deed[1], deed[2])
        elif word == "say_over":
            self.say_over(deed[1], deed[2])
        elif word == "turn_about":
            self.turn_about(deed[1])
        else:
            self.drop(deed[1])

    def gained(self, name, company):
        """What the row gained by the last deed that is not undone, or None where it was not there ahead of it."""
        crowd = self.named(name)
        need_number(company)
        if not self._done or name not in self._done[-1][1]:
            return None
        ahead = self._done[-1][1][name]
        # A row of which the deed was not is the very same crowd as ahead.
        if crowd == ahead:
            return 0
        return come_of(crowd, company, crowd.size) - come_of(ahead, company, ahead.size)

    def twin(self):
        """Another hall in which all is as in this one."""
        other = Hall()
        other._rows = self._rows
        other._done = list(self._done)
        other._undone = list(self._undone)
        return other

    def __len__(self):
        return len(self._rows)
