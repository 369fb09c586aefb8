"""The form that papers have in common; no part of the interface."""

from boastrow.rows import is_number


def is_paper(thing, word):
    """Whether the thing, anything, is a tuple of just this word and a number."""
    if not isinstance(thing, tuple) or len(thing) != 2:
        return False
    return isinstance(thing[0], str) and thing[0] == word and is_number(thing[1])
