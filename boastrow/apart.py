"""Two tables: whether they are alike, and from which company on they are not."""

from boastrow.levels import first_apart, first_less
from boastrow.tables import need_rows_table


def alike(one, other):
    """Whether two rows' tables are the same list."""
    need_rows_table(one)
    need_rows_table(other)
    return one == other


def least_apart(one, other):
    """The least company at which the manies are unlike, or None."""
    need_rows_table(one)
    need_rows_table(other)
    return first_apart(one, other)


def least_less(one, other):
    """The least company at which the first one's many is less than the second one's, or None."""
    need_rows_table(one)
    need_rows_table(other)
    return first_less(one, other)
