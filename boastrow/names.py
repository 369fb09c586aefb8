"""The names by which a hall keeps its rows; no part of the interface."""

LONGEST_NAME = 8


def is_name(thing):
    """Whether the thing is a text of one to eight small letters."""
    if not isinstance(thing, str) or not 1 <= len(thing) <= LONGEST_NAME:
        return False
    return all(["a" <= sign <= "z" for sign in thing])
