"""The judge of papers that a lot is no row's."""

from boastrow.levels import changes_by
from boastrow.lots import need_ordered, stood
from boastrow.papers import is_paper


def ends_shown(lot, c):
    """Whether none never speaks truly, and more end at c than one and those that begin at the next number."""
    if any([stretch is None for stretch in lot]):
        return False
    return changes_by(lot).get(c + 1, 0) < -1


def lot_shows(lot, paper):
    """Whether the paper, anything, is one that holds of the lot, in which None may stand."""
    need_ordered(lot)
    if is_paper(paper, "ends"):
        return ends_shown(lot, paper[1])
    return is_paper(paper, "bare") and stood(lot)[1] == paper[1]
