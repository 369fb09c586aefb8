"""Round tables: each person speaks of all others and of a company beside; which words can be there together."""

from math import comb

from boastrow.errors import NoWords, TooMany
from boastrow.levels import added_up, changes_by, level_at
from boastrow.rows import is_number, need_number, need_row

MOST_NUMBERED = 40

# How somebody stands where, of all with the company together, a number speak truly.
NEITHER = 0
MAY = 1
MUST = 2
BARRED = 3


def standing(saying, heard):
    """How somebody stands who says this, where just so many, with the company together, speak truly."""
    least, most = saying
    if heard < least:
        return NEITHER
    if heard == least:
        return BARRED
    if most is None or heard <= most:
        return MUST
    return MAY if heard == most + 1 else NEITHER


def places_of(row, heard, standings):
    """The places of those who stand so where so many speak truly."""
    return [place for place in range(len(row)) if standing(row[place], heard) in standings]


def is_words(thing, many):
    """Whether the thing is a list of so many truths."""
    if not isinstance(thing, list) or len(thing) != many:
        return False
    # Not by ==, as 0 and 1 are no words.
    return all([word is True or word is False for word in thing])


def is_consistent(row, words, *, company=0):
    """Whether each speaks truly just if as many of the others and of the company do as it says."""
    need_row(row)
    if not is_words(words, len(row)):
        raise NoWords("a list of a truth for each person is wanted")
    need_number(company)
    many = company + words.count(True)
    for (least, most), word in zip(row, words):
        heard = many - 1 if word else many
        if word != (least <= heard and (most is None or heard <= most)):
            return False
    return True


def standings_along(row):
    """(barred, must, may): how many stand so, as steps by how many, with the company together, speak truly."""
    barred = changes_by([(least, least) for least, _ in row])
    must = changes_by([(least + 1, most) for least, most in row])
    may = changes_by([(most + 1, most + 1) for _, most in row if most is not None])
    return (added_up(barred), added_up(must), added_up(may))


def ways_of(row, company):
    """The list of tuples (true, ways, must): in how many tellings so many speak truly, and how many of these must."""
    barred, must, may = standings_along(row)
    out = []
    for true in range(len(row) + 1):
        heard = true + company
        needed = level_at(must, heard)
        if level_at(barred, heard) == 0 and needed <= true:
            ways = comb(level_at(may, heard), true - needed)
            if ways > 0:
                out.append((true, ways, needed))
    return out


def tellings(row, *, company=0):
    """The list of tuples (true, ways), rising: in how many consistent tellings just so many speak truly."""
    need_row(row)
    need_number(company)
    return [(true, ways) for true, ways, _ in ways_of(row, company)]


def first_with(row, heard, left):
    """The least telling in which all who must, and so many of those who may, speak truly."""
    words = [standing(saying, heard) == MUST for saying in row]
    may = places_of(row, heard, [MAY])
    # False is ahead of True, so that those at the back are taken.
    for place in may[len(may) - left:]:
        words[place] = True
    return words


def least_telling(row, *, company=0):
    """The least consistent telling, False ahead of True, or None."""
    need_row(row)
    need_number(company)
    found = [first_with(row, true + company, true - needed) for true, _, needed in ways_of(row, company)]
    return min(found) if found else None


class Branch:
    """The tellings of one number of true ones that go on as the words told so far: who stands how, and who is left."""

    def __init__(self, standings, left):
        self.standings = standings
        # Of those who may so many are yet to be told, and so many of these speak truly.
        self.may = standings.count(MAY)
        self.left = left

    def ways(self, place, word):
        """In how many of these the person at the place has the word."""
        stands = self.standings[place]
        if stands != MAY:
            return comb(self.may, self.left) if (stands == MUST) == word else 0
        if word:
            return comb(self.may - 1, self.left - 1) if self.left > 0 else 0
        return comb(self.may - 1, self.left)

    def tell(self, place, word):
        """Go on to those in which the person at the place has the word."""
        if self.standings[place] == MAY:
            self.may -= 1
            if word:
                self.left -= 1


def nth_telling(row, number, *, company=0):
    """The consistent telling of this number, from 0 on, False ahead of True, or None."""
    need_row(row)
    need_number(number)
    need_number(company)
    if len(row) > MOST_NUMBERED:
        raise TooMany(len(row))
    found = ways_of(row, company)
    if number >= sum([ways for _, ways, _ in found]):
        return None
    branches = [Branch([standing(saying, true + company) for saying in row], true - needed)
                for true, _, needed in found]
    words = []
    for place in range(len(row)):
        ahead = sum([branch.ways(place, False) for branch in branches])
        word = number >= ahead
        if word:
            number -= ahead
        branches = [branch for branch in branches if branch.ways(place, word) > 0]
        for branch in branches:
            branch.tell(place, word)
        words.append(word)
    return words


def why_not(row, true, *, company=0):
    """None where some consistent telling has just so many true ones, else the first paper that none has."""
    need_row(row)
    need_number(true)
    need_number(company)
    barred = places_of(row, true + company, [BARRED])
    if barred:
        return ("bars", true, barred[0])
    must = places_of(row, true + company, [MUST])
    if len(must) > true:
        return ("more", true, must)
    able = places_of(row, true + company, [MAY, MUST])
    return ("fewer", true, able) if len(able) < true else None


def are_rising(thing, places):
    """Whether the thing is a rising list of such places."""
    if not isinstance(thing, list) or not all([is_number(place) and place < places for place in thing]):
        return False
    return all([one < other for one, other in zip(thing, thing[1:])])


def round_shows(row, paper, *, company=0):
    """Whether the paper, anything, is one that holds, and so shows that no telling has so many true ones."""
    need_row(row)
    need_number(company)
    if not isinstance(paper, tuple) or len(paper) != 3 or not isinstance(paper[0], str) or not is_number(paper[1]):
        return False
    word, true, shown = paper
    if word == "bars":
        return is_number(shown) and shown in places_of(row, true + company, [BARRED])
    if not are_rising(shown, len(row)):
        return False
    if word == "more":
        return len(shown) > true and all([standing(row[place], true + company) == MUST for place in shown])
    return word == "fewer" and len(shown) < true and shown == places_of(row, true + company, [MAY, MUST])


def least_beside(row):
    """The least company with which some telling is consistent."""
    need_row(row)
    barred, must, may = standings_along(row)
    points = sorted(set([c for c, _ in barred + must + may]))
    found = []
    for heard, beyond in zip(points, points[1:] + [None]):
        needed = level_at(must, heard)
        true = needed + level_at(may, heard)
        if beyond is not None:
            # More than are heard cannot speak truly.
            true = min(true, beyond - 1)
        if level_at(barred, heard) == 0 and needed <= true:
            found.append(max(heard - true, 0))
    return min(found)
