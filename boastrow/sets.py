"""Rows of sets: each says that how many speak truly of all who stand behind is a number of its set."""

from boastrow.errors import NoSets
from boastrow.growth import Growth
from boastrow.levels import first_apart, last_step_to, level_at
from boastrow.papers import is_paper
from boastrow.rows import need_number, need_row
from boastrow.tables import is_stretches, need_rows_table, need_table
from boastrow.wished import least_fall, need_few, people_needed


def is_sets(thing):
    """Whether the thing is a list or tuple of sets, each a list of stretches."""
    return isinstance(thing, (list, tuple)) and all([is_stretches(one) for one in thing])


def need_sets(thing):
    """Refuse what is no row of sets."""
    if not is_sets(thing):
        raise NoSets("a list or tuple of sets is wanted, each a rising list of stretches")


def holds(stretches, number):
    """Whether one of the stretches holds the number."""
    if not stretches:
        return False
    first, last = stretches[last_step_to(stretches, number)]
    return first <= number and (last is None or number <= last)


def set_words(sets, company):
    """Who speaks truly, front first."""
    need_sets(sets)
    need_number(company)
    many = company
    out = []
    for said in reversed(sets):
        word = holds(said, many)
        out.append(word)
        if word:
            many += 1
    return out[::-1]


def set_total(sets, company):
    """How many speak truly, the row of sets and the company together."""
    return company + set_words(sets, company).count(True)


def grown(sets):
    """(table, found): the table, and for each person, front first, by which companies it speaks truly."""
    growth = Growth()
    found = [growth.step_in(said) for said in reversed(sets)]
    return (growth.table(), found[::-1])


def set_table(sets):
    """The table of a row of sets."""
    need_sets(sets)
    return grown(sets)[0]


def true_at(sets):
    """For each person, front first, the set of the companies by which it speaks truly."""
    need_sets(sets)
    return grown(sets)[1]


def sets_of(row):
    """A row of sayings as one of sets."""
    need_row(row)
    return [[saying] for saying in row]


def greatest_many(table):
    """The greatest many of a table."""
    return max([many for _, many in table])


def set_row(table):
    """The row of sets in which the last person speaks truly where at least one does, the one ahead where two do."""
    sets = [[] for _ in range(greatest_many(table))]
    # From which company on there are one, two, three, and so on; each set is of the totals of the others behind.
    since = []
    for c, many in table:
        while len(since) > many:
            first = since.pop()
            behind = len(since)
            sets[behind].append((first + behind, c - 1 + behind))
        while len(since) < many:
            since.append(c)
    for behind, first in enumerate(since):
        sets[behind].append((first + behind, None))
    return sets[::-1]


def fewest_sets(table):
    """("row", sets), the fewest sets with this table, or the paper ("falls", c)."""
    need_table(table)
    c = least_fall(table)
    if c is not None:
        return ("falls", c)
    need_few(greatest_many(table))
    return ("row", set_row(table))


def shown_at_once(table, paper):
    """How many people the paper, anything, shows: the many at c of ("at once", c); else None."""
    need_rows_table(table)
    return level_at(table, paper[1]) if is_paper(paper, "at once") else None


def at_once(table):
    """The paper ("at once", c) with the least c by which the greatest number is shown."""
    need_rows_table(table)
    most = greatest_many(table)
    return ("at once", [c for c, many in table if many == most][0])


def sets_apart(one, other):
    """The least company at which the totals of two rows of sets part, or None."""
    need_sets(one)
    need_sets(other)
    return first_apart(grown(one)[0], grown(other)[0])


def sayings_more(sets):
    """How many people more the fewest sayings are that act as a row of sets does than the fewest sets."""
    table = set_table(sets)
    return people_needed(table) - greatest_many(table)
