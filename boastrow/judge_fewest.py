"""The judges of papers that nobody has a table, and that so few people do not."""

from boastrow.levels import least_to_total, level_at
from boastrow.papers import is_paper
from boastrow.rows import need_number
from boastrow.tables import is_stretches, need_rows_table, need_table, size_of


def falls_holds(table, paper):
    """Whether the paper, anything, is ("falls", c), and from c to the next number the table falls by two or more."""
    need_table(table)
    return is_paper(paper, "falls") and level_at(table, paper[1] + 1) < level_at(table, paper[1]) - 1


def never_come(table, first, last):
    """Whether none of the totals from the first to the last one comes."""
    c = least_to_total(table, first)
    return c + level_at(table, c) > last


def totals_hold(table, people, paper):
    """Whether the paper, anything, is ("totals", stretches) of more totals than people, none of which ever comes."""
    need_rows_table(table)
    need_number(people)
    if not isinstance(paper, tuple) or len(paper) != 2 or not isinstance(paper[0], str) or paper[0] != "totals":
        return False
    stretches = paper[1]
    if not is_stretches(stretches) or (stretches and stretches[-1][1] is None):
        return False
    return size_of(stretches) > people and all([never_come(table, first, last) for first, last in stretches])
