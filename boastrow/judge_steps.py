"""The judges of papers that nobody steps in between two rows, and of how many people that needs."""

from boastrow.between import led_to, moves, need_three, paper_against
from boastrow.levels import level_at
from boastrow.papers import is_paper
from boastrow.rows import is_number


def falls_at(table, c):
    """Whether the table falls by two or more from c to the next number."""
    return level_at(table, c + 1) < level_at(table, c) - 1


def folds_at(table, c):
    """Whether the table has one total at c and at the next number."""
    return level_at(table, c + 1) == level_at(table, c) - 1


def less_at(front, back, wished, c):
    """Whether the wished total at c is less than that of front and back together."""
    number = c + level_at(back, c)
    return c + level_at(wished, c) < number + level_at(front, number)


def has_total(table, total):
    """Whether the total comes of some company; the table may fall by two or more."""
    return any([total >= many and level_at(table, total - many) == many for _, many in table])


def nobody_shows(front, back, wished, paper):
    """Whether the paper, anything, is one that holds, and so shows that nobody can step in."""
    need_three(front, back, wished)
    if is_paper(paper, "falls"):
        return falls_at(wished, paper[1])
    if is_paper(paper, "less"):
        return less_at(front, back, wished, paper[1])
    if is_paper(paper, "folded"):
        return folds_at(back, paper[1]) and not folds_at(wished, paper[1])
    return is_paper(paper, "never") and has_total(wished, paper[1]) and not has_total(front, paper[1])


def needs_paper(front, back, wished):
    """("rises", pairs), which shows how many people are needed, or None where nobody does."""
    need_three(front, back, wished)
    if paper_against(front, back, wished) is not None:
        return None
    pairs = []
    lowest = None
    rising = False
    for company, _, more in moves(front, back, wished):
        if more < 0:
            lowest = company
        elif rising:
            # It goes on up, so the pair of the last step goes on to here.
            pairs[-1] = (lowest, company)
        else:
            pairs.append((lowest, company))
        rising = more > 0
    return ("rises", pairs)


def is_rises(paper):
    """Whether the paper, anything, is ("rises", pairs), pairs a list of tuples (from, to) as they are due."""
    if not isinstance(paper, tuple) or len(paper) != 2 or not isinstance(paper[0], str) or paper[0] != "rises":
        return False
    if not isinstance(paper[1], list):
        return False
    ahead = None
    for pair in paper[1]:
        if not isinstance(pair, tuple) or len(pair) != 2 or not is_number(pair[1]):
            return False
        begun, end = pair
        if begun is None:
            if ahead is not None:
                return False
        elif not is_number(begun) or begun >= end or (ahead is not None and begun < ahead):
            return False
        ahead = end
    return True


def shown_by(front, back, wished, pair):
    """How many people the pair shows; somebody does step in."""
    begun, end = pair
    least, _ = led_to(front, end + level_at(wished, end))
    shown = least - end - level_at(back, end)
    if begun is None:
        return shown
    _, greatest = led_to(front, begun + level_at(wished, begun))
    return shown - (greatest - begun - level_at(back, begun))


def needs_shown(front, back, wished, paper):
    """How many people the paper, anything, shows to be needed; None where it is no such paper, or nobody does."""
    need_three(front, back, wished)
    if not is_rises(paper) or paper_against(front, back, wished) is not None:
        return None
    shown = [shown_by(front, back, wished, pair) for pair in paper[1]]
    return sum(shown) if all([many > 0 for many in shown]) else None
