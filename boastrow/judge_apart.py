"""The judge of papers that two tables are not alike."""

from boastrow.levels import level_at
from boastrow.rows import is_number
from boastrow.tables import need_rows_table


def is_paper(thing):
    """Whether the thing has the form ("apart", c)."""
    if not isinstance(thing, tuple) or len(thing) != 2:
        return False
    return isinstance(thing[0], str) and thing[0] == "apart" and is_number(thing[1])


def apart_holds(one, other, paper):
    """Whether the paper, anything, is ("apart", c) with a c at which the manies of the tables are unlike."""
    need_rows_table(one)
    need_rows_table(other)
    return is_paper(paper) and level_at(one, paper[1]) != level_at(other, paper[1])
