"""Stepping in between two rows: which numbers those who do must make of which, and how few they are."""

from boastrow.levels import added_up, first_less, least_to_total, least_to_totals, level_at, levels_along
from boastrow.rows import need_number
from boastrow.tables import folds, joined, need_rows_table, need_table, never_comes
from boastrow.wished import least_fall, need_few


def need_three(front, back, wished):
    """Refuse what is no row's table in front or behind, and what is no wished table."""
    need_rows_table(front)
    need_rows_table(back)
    need_table(wished)


def led_to(front, total):
    """(least, greatest): the numbers that front leads to the total, or None."""
    least = least_to_total(front, total)
    if least + level_at(front, least) != total:
        return None
    return (least, least_to_total(front, total + 1) - 1)


def window(front, back, wished, company):
    """(least, greatest): the numbers that front leads to the wished total at the company, or None."""
    need_three(front, back, wished)
    need_number(company)
    return led_to(front, company + level_at(wished, company))


def unfolded_at(back, wished):
    """The least c by which back comes to one total with the next, and wished does not, or None."""
    for first, last in folds(back):
        for c in range(first, last + 1):
            if level_at(wished, c + 1) != level_at(wished, c) - 1:
                return c
    return None


def unreached(front, wished):
    """The least total that wished has and front never has, or None; wished never falls by two."""
    for first, last in never_comes(front):
        c = least_to_total(wished, first)
        total = c + level_at(wished, c)
        if total <= last:
            return total
    return None


def paper_against(front, back, wished):
    """The first paper that nobody can step in so that the three are as wished, or None."""
    c = least_fall(wished)
    if c is not None:
        return ("falls", c)
    c = first_less(wished, joined(front, back))
    if c is not None:
        return ("less", c)
    c = unfolded_at(back, wished)
    if c is not None:
        return ("folded", c)
    total = unreached(front, wished)
    return None if total is None else ("never", total)


def bounds(front, back, wished):
    """The list of tuples (company, number, fewest, most): back's totals, and how many may be added to them.

    It holds up to the next company that is told. There is no paper that nobody can step in.
    """
    # Besides at steps of these two they change only where wished leaves a total behind that front has twice or more.
    turns = least_to_totals(wished, [c + many + 1 for c, many in front])
    points = sorted(set([c for c, _ in back + wished] + turns))
    numbers = [c + many for c, many in zip(points, levels_along(back, points))]
    wants = [c + many for c, many in zip(points, levels_along(wished, points))]
    leasts = least_to_totals(front, wants)
    beyonds = least_to_totals(front, [total + 1 for total in wants])
    return [(c, number, max(0, least - number), beyond - 1 - number)
            for c, number, least, beyond in zip(points, numbers, leasts, beyonds)]


def moves(front, back, wished):
    """The list of tuples (company, number, more): how many more those who step in add to back's total there.

    Where more is below 0, it goes down by ones, at so many numbers up to this one.
    """
    out = []
    many = 0
    for company, number, fewest, most in bounds(front, back, wished):
        wants = min(max(many, fewest), most)
        if wants != many:
            out.append((company, number, wants - many))
        many = wants
    return out


def people_moved(moved):
    """How many people the moves need: as many as they go up."""
    return sum([more for _, _, more in moved if more > 0])


def table_moved(moved):
    """The table of the moves."""
    need_few(people_moved(moved))
    changes = {}
    for _, number, more in moved:
        if more > 0:
            changes[number] = more
        for c in range(number + more + 1, number + 1):
            changes[c] = -1
    return added_up(changes)


def table_between(front, back, wished):
    """The table of those who step in, or None where nobody does."""
    need_three(front, back, wished)
    if paper_against(front, back, wished) is not None:
        return None
    return table_moved(moves(front, back, wished))


def needed(front, back, wished):
    """How many people step in, or None where nobody does."""
    need_three(front, back, wished)
    if paper_against(front, back, wished) is not None:
        return None
    return people_moved(moves(front, back, wished))


def front_first(front, back, wished):
    """-1, 0, 1: stepping in between needs fewer people, as many, more than in front of both; None where one fails."""
    between = needed(front, back, wished)
    ahead = needed([(0, 0)], joined(front, back), wished)
    if between is None or ahead is None:
        return None
    if between == ahead:
        return 0
    return -1 if between < ahead else 1
