"""Orders: what is said to a desk, read and written."""

from boastrow.errors import NoOrder
from boastrow.names import is_name
from boastrow.powers import is_long
from boastrow.rows import is_number, is_saying
from boastrow.texts import read_figures, read_row, read_saying, show_long, show_saying

# A number in an order has at most so many figures, and so is below this.
MOST_FIGURES = 30
NUMBER_BOUND = 10 ** 30

# Each order's word, and what it is about.
ABOUT = {
    "begin": ("name", "long"), "in": ("name", "number", "saying"), "go": ("name", "number"),
    "resay": ("name", "number", "saying"), "cut": ("name", "number", "name"), "join": ("name", "name"),
    "over": ("name", "number"), "turn": ("name",), "drop": ("name",), "undo": (), "redo": (),
    "names": (), "people": ("name",), "total": ("name", "number"), "least": ("name", "number"),
    "speaks": ("name", "number", "number"), "when": ("name", "number"), "gained": ("name", "number"),
    "show": ("name",), "table": ("name",), "never": ("name",), "folds": ("name",), "lot": ("name",),
    "fewest": ("name",), "gone": ("name",), "sets": ("name",), "apart": ("name", "name"),
    "front": ("name", "name"), "behind": ("name", "name"), "round": ("name", "number"),
}


def read_thing(kind, text):
    """The name, number or saying that the text writes, or None."""
    if kind == "name":
        return text if is_name(text) else None
    if kind == "number":
        return read_figures(text) if len(text) <= MOST_FIGURES else None
    return read_saying(text)


def is_thing(kind, thing):
    """Whether the thing, anything, is of this kind."""
    if kind == "name":
        return is_name(thing)
    if kind == "number":
        return is_number(thing) and thing < NUMBER_BOUND
    return is_saying(thing) if kind == "saying" else is_long(thing)


def show_thing(kind, thing):
    """A thing of this kind as it is written."""
    if kind == "name":
        return thing
    if kind == "number":
        return str(thing)
    return show_saying(thing) if kind == "saying" else show_long(thing)


def begin_of(text):
    """The order that begins a row: what is behind the blank behind the name is the row's."""
    words = text.split(" ", 2)
    if len(words) < 3 or not is_name(words[1]):
        raise NoOrder("a name is wanted, a blank, and a row")
    return ("begin", words[1], read_row(words[2]))


def order_of(text):
    """The order that the text writes, a tuple."""
    if not isinstance(text, str):
        raise NoOrder("a text is wanted")
    words = text.split(" ")
    if words[0] == "begin":
        return begin_of(text)
    if words[0] not in ABOUT or len(words) != len(ABOUT[words[0]]) + 1:
        raise NoOrder("an order's word is wanted, and what it is about")
    things = [read_thing(kind, word) for kind, word in zip(ABOUT[words[0]], words[1:])]
    if any([thing is None for thing in things]):
        raise NoOrder("names, numbers and sayings are wanted as the order has them")
    return (words[0], *things)


def is_order(thing):
    """Whether the thing is an order as a tuple."""
    if not isinstance(thing, tuple) or not thing or not isinstance(thing[0], str) or thing[0] not in ABOUT:
        return False
    kinds = ABOUT[thing[0]]
    return len(thing) == len(kinds) + 1 and all([is_thing(kind, one) for kind, one in zip(kinds, thing[1:])])


def show_order(order):
    """An order as it is written."""
    if not is_order(order):
        raise NoOrder("a tuple of an order's word and what it is about is wanted")
    things = [show_thing(kind, one) for kind, one in zip(ABOUT[order[0]], order[1:])]
    return " ".join([order[0]] + things)
