"""The fewest people who act as a row does, and who of the row may go."""

from boastrow.levels import stretch_to
from boastrow.rows import need_number, need_row
from boastrow.tables import never_comes, table_of
from boastrow.wished import first_fewest, people_needed


def fewest(row):
    """The first of the fewest rows with the row's table."""
    return first_fewest(table_of(row))


def least_of(stretches, many):
    """The least numbers of the stretches, so many of them, as stretches."""
    out = []
    left = many
    for first, last in stretches:
        if left > 0:
            out.append(stretch_to(first, min(last + 1, first + left)))
            left -= last - first + 1
    return out


def within(row, people):
    """("row", row), the first fewest, where it has no more people; or ("totals", stretches) that never come."""
    table = table_of(row)
    need_number(people)
    if people_needed(table) > people:
        return ("totals", least_of(never_comes(table), people + 1))
    return ("row", first_fewest(table))


def never_with(never, saying):
    """The totals that never come, rising, with who says this in front of those of whom never are these totals."""
    least, most = saying
    out = [total for total in never if total < least] + [least]
    if most is None:
        return out + [total + 1 for total in never if total >= least]
    out += [total + 1 for total in never if least <= total < most]
    # Both come to this total, so it fails only where both fail.
    if most in never and most + 1 in never:
        out.append(most + 1)
    return out + [total for total in never if total > most + 1]


def folds_with(folded, saying):
    """The folds, rising, with who says this behind those of whom folded are the folds."""
    least, most = saying
    out = [c for c in folded if c < least - 1]
    if least - 1 in folded and least in folded:
        out.append(least - 1)
    if most is None:
        return out + [c - 1 for c in folded if c > least]
    out += [c - 1 for c in folded if least < c <= most]
    return out + [most] + [c for c in folded if c > most]


def goes_unheard(saying, never, folded):
    """Whether each number that is said never comes from behind, or makes no difference to those in front."""
    least, most = saying
    if most is None:
        return False
    idle = [number for number in never + folded if least <= number <= most]
    return len(set(idle)) == most - least + 1


def may_go(row):
    """The places, rising, of those each of whom may leave, all others staying, and the table stays as it was."""
    need_row(row)
    nevers = [[]]
    for saying in reversed(row):
        nevers.append(never_with(nevers[-1], saying))
    folded = []
    out = []
    for place in range(len(row)):
        if goes_unheard(row[place], nevers[len(row) - 1 - place], folded):
            out.append(place)
        folded = folds_with(folded, row[place])
    return out
