"""Meetings: the least table that both of two rows can be made into, by people in front or by people behind."""

from boastrow.levels import least_to_total, level_at, levelled, levels_along
from boastrow.sets import greatest_many
from boastrow.tables import folds, greater_of, never_comes
from boastrow.wished import need_few


def merged(stretches):
    """The numbers of these stretches, all of which end, as stretches that rise and do not touch."""
    out = []
    for first, last in sorted(stretches):
        if out and first <= out[-1][1] + 1:
            out[-1] = (out[-1][0], max(last, out[-1][1]))
        else:
            out.append((first, last))
    return out


def lifted(table, lifts):
    """The table, but with one total by all companies, if any, from first to last, of each (first, last, total)."""
    totals = {c: total for first, last, total in lifts for c in range(first, last + 1)}
    behind = [last + 1 for _, last, _ in lifts]
    points = sorted(set([c for c, _ in table] + list(totals) + behind))
    manies = levels_along(table, points)
    return levelled([(c, totals.get(c, c + many) - c) for c, many in zip(points, manies)])


def front_for_both(one, other):
    """The least table that both rows' tables can be made into by people in front."""
    greater = greater_of(one, other)
    # Companies that come to one total in one of both do so whoever stands in front: to that of the last of them.
    lifts = [(first, last, last + 1 + level_at(greater, last + 1)) for first, last in merged(folds(one) + folds(other))]
    return lifted(greater, lifts)


def behind_for_both(one, other):
    """The least table that both rows' tables can be made into by people behind."""
    greater = greater_of(one, other)
    need_few(max(greatest_many(one), greatest_many(other)))
    # A total that one of both never has is none whoever stands behind: the next one is the least that may be.
    lifts = [(least_to_total(greater, first), least_to_total(greater, last + 1) - 1, last + 1)
             for first, last in merged(never_comes(one) + never_comes(other))]
    return lifted(greater, lifts)
