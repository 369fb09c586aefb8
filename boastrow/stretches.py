"""What the people of a row say of the company: the stretches by which they speak truly, and how their words change."""

from boastrow.errors import NoWords
from boastrow.levels import added_up, changes_by, companies_within, said_of_company, stretch_to
from boastrow.rows import need_place, need_row


def says_of(row, place):
    """The stretch of the companies by which the person at the place speaks truly, or None."""
    need_row(row)
    need_place(place, len(row))
    return companies_within(row[place + 1:], row[place])


def lot_of(row):
    """What each person says of the company, front first."""
    need_row(row)
    return said_of_company(row)


def turned_at(lot):
    """A dict: the places whose word is another one at c than ahead of it, or at 0 is true; 0 is always in it."""
    turned = {0: []}
    for place in range(len(lot)):
        if lot[place] is not None:
            first, last = lot[place]
            turned.setdefault(first, []).append(place)
            if last is not None:
                turned.setdefault(last + 1, []).append(place)
    return turned


def changes(row):
    """The list of tuples (c, words): the words hold from c to one below the next c."""
    lot = lot_of(row)
    turned = turned_at(lot)
    now = [False] * len(lot)
    out = []
    for c in sorted(turned):
        for place in turned[c]:
            now[place] = not now[place]
        out.append((c, list(now)))
    return out


def need_words(thing, people):
    """Refuse what is no list of a word, or None, for each of so many people."""
    if not isinstance(thing, list) or len(thing) != people:
        raise NoWords("a list with a word, or None, for each person is wanted")
    # Not by ==, as 0 and 1 are no words.
    if not all([word is None or word is True or word is False for word in thing]):
        raise NoWords("each word is True, False, or None for any")


def against(stretch, word):
    """The stretches of the companies by which who says this of the company does not have the word."""
    if word is None:
        return []
    if stretch is None:
        return [(0, None)] if word else []
    if not word:
        return [stretch]
    first, last = stretch
    out = [] if last is None else [(last + 1, None)]
    ahead = stretch_to(0, first)
    return out if ahead is None else [ahead] + out


def when(row, words):
    """The stretches of the companies by which each person has the word that is told of it, None for any."""
    lot = lot_of(row)
    need_words(words, len(lot))
    steps = added_up(changes_by([one for stretch, word in zip(lot, words) for one in against(stretch, word)]))
    begun = [c for c, _ in steps] + [None]
    return [stretch_to(c, beyond) for (c, many), beyond in zip(steps, begun[1:]) if many == 0]
