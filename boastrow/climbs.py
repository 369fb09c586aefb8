"""Climbs through a crowd, from the back to the front, and wishes, from the front to the back.

No part of the interface. What is heard only rises on a climb. As long as it passes none of the points at which a
saying of the crowd begins or ends to be true, each saying stays true or false, so that the way to the next point is
counted, and nobody goes it.
"""

from boastrow.crowds import flat_if_few, saying_in
from boastrow.levels import changes_by, stretch_to, wish_behind
from boastrow.standing import many_to


def changes_in(crowd):
    """A dict: at each point of a crowd of which all parts know theirs how many more would speak truly."""
    if crowd.row is not None:
        return changes_by(crowd.row)
    changes = {}
    for part in (crowd.front, crowd.back):
        ahead = 0
        for c, many in zip(part.points, part.manies):
            changes[c] = changes.get(c, 0) + many - ahead
            ahead = many
    return changes


def count_here(crowd):
    """Tell a crowd of which all parts know theirs its points and manies."""
    if crowd.times > 0:
        crowd.points = crowd.back.points
        crowd.manies = crowd.back.manies
        if crowd.times > 1:
            crowd.manies = [many * crowd.times for many in crowd.back.manies]
        return
    # Also a point at which as many begin to be true as end is one: it makes a difference who does.
    changes = changes_in(crowd)
    crowd.points = sorted(changes)
    crowd.manies = []
    many = 0
    for c in crowd.points:
        many += changes[c]
        crowd.manies.append(many)


def count_true(crowd):
    """Tell the crowd, and all in it, their points and manies."""
    waiting = [crowd]
    while waiting:
        inner = waiting[-1]
        parts = [part for part in (inner.front, inner.back) if part is not None and part.points is None]
        if inner.points is not None:
            waiting.pop()
        elif parts:
            waiting += parts
        else:
            count_here(inner)


def many_true(crowd, c):
    """How many of the crowd would speak truly if all heard c."""
    at = many_to(crowd.points, c)
    return crowd.manies[at - 1] if at > 0 else 0


def holds(saying, c):
    """Whether the saying is true for who hears c."""
    least, most = saying
    return least <= c and (most is None or c <= most)


def true_to(crowd, c, people):
    """How many of so many of the hindmost people would speak truly if all heard c."""
    inner = crowd
    left = people
    out = 0
    while 0 < left < inner.size:
        if inner.row is not None:
            for least, most in inner.row[inner.size - left:]:
                if least <= c and (most is None or c <= most):
                    out += 1
            return out
        back = inner.back
        if inner.times > 0:
            times, left = divmod(left, back.size)
            out += times * many_true(back, c)
            inner = back
        elif left <= back.size:
            inner = back
        else:
            out += many_true(back, c)
            left -= back.size
            inner = inner.front
    return out + many_true(inner, c) if left > 0 else out


def people_to(crowd, c, many):
    """The least number of hindmost people of whom so many, at least one, would speak truly if all heard c."""
    inner = crowd
    left = many
    out = 0
    while inner.row is None:
        back = inner.back
        true = many_true(back, c)
        if inner.times > 0:
            times = (left - 1) // true
            out += times * back.size
            left -= times * true
            inner = back
        elif left <= true:
            inner = back
        else:
            out += back.size
            left -= true
            inner = inner.front
    for least, most in reversed(inner.row):
        out += 1
        if least <= c and (most is None or c <= most):
            left -= 1
            if left == 0:
                break
    return out


class Climb:
    """On the way to the front: how many people are passed, and how many of them and of the company speak truly."""

    def __init__(self, crowd, company):
        self.crowd = flat_if_few(crowd)
        self.passed = 0
        self.value = company

    def go(self, people, goal):
        """Go on until so many people are passed, or so many speak truly, more than do yet (None: however many)."""
        if self.crowd.row is not None:
            self.walk(people, goal)
            return
        count_true(self.crowd)
        points = self.crowd.points
        at = many_to(points, self.value)
        while self.passed < people and self.value != goal:
            stop = goal
            if at < len(points) and (goal is None or points[at] <= goal):
                stop = points[at]
                at += 1
            true = true_to(self.crowd, self.value, self.passed)
            beyond = self.value + true_to(self.crowd, self.value, people) - true
            if stop is None or beyond < stop:
                self.value = beyond
                self.passed = people
            else:
                self.passed = people_to(self.crowd, self.value, true + stop - self.value)
                self.value = stop

    def walk(self, people, goal):
        """The same, person by person, along a crowd that is a short row."""
        row = self.crowd.row
        value = self.value
        passed = self.passed
        for least, most in row[len(row) - people:len(row) - passed][::-1]:
            passed += 1
            if least <= value and (most is None or value <= most):
                value += 1
                if value == goal:
                    break
        self.value = value
        self.passed = passed


def come_of(crowd, company, people):
    """How many of so many of the hindmost people, and of the company, speak truly."""
    climb = Climb(crowd, company)
    climb.go(people, None)
    return climb.value


def wish_of(crowd, wish, people):
    """What comes of the wish behind so many of the hindmost people, all of whom it goes through."""
    flat = flat_if_few(crowd)
    if flat.row is not None:
        return wish_behind(flat.row[flat.size - people:], wish)
    count_true(crowd)
    points = crowd.points
    # Whoever has a wish hands on one less just where it would speak truly if it heard one less than the wish.
    at = many_to(points, wish - 1)
    left = people
    while at > 0:
        at -= 1
        true = true_to(crowd, wish - 1, left)
        if wish - true > points[at]:
            return wish - true
        left = people_to(crowd, wish - 1, true - (wish - points[at]) + 1) - 1
        wish = points[at]
    return wish


def speaks_in(crowd, company, place):
    """Whether the person at the place speaks truly."""
    return holds(saying_in(crowd, place), come_of(crowd, company, crowd.size - 1 - place))


def stretch_in(crowd, place):
    """The companies by which the person at the place speaks truly: a stretch, or None."""
    least, most = saying_in(crowd, place)
    behind = crowd.size - 1 - place
    first = wish_of(crowd, least, behind)
    return stretch_to(first, None if most is None else wish_of(crowd, most + 1, behind))
