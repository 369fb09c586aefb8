"""The judge of papers that two tables are not alike."""

from boastrow.levels import level_at
from boastrow.papers import is_paper
from boastrow.tables import need_rows_table


def apart_holds(one, other, paper):
    """Whether the paper, anything, is ("apart", c) with a c at which the manies of the tables are unlike."""
    need_rows_table(one)
    need_rows_table(other)
    return is_paper(paper, "apart") and level_at(one, paper[1]) != level_at(other, paper[1])
