"""The refusals: each class stands straight under BoastError, none under another one."""


class BoastError(ValueError):
    """Any refusal of this program."""


class NoNumber(BoastError):
    """What is handed in is no number."""


class NoSaying(BoastError):
    """What is handed in is no saying."""


class NoRow(BoastError):
    """What is handed in is no row."""


class NoPlace(BoastError):
    """What is handed in is no place, or none of this row's."""


class NoTable(BoastError):
    """What is handed in is no table, or none of a row."""


class NoStretches(BoastError):
    """What is handed in are no stretches, or they go on where they must end."""


class NoLot(BoastError):
    """What is handed in is no lot."""


class NoWords(BoastError):
    """What is handed in are no words of this row."""


class NoShelf(BoastError):
    """What is handed in is no shelf."""


class NoBook(BoastError):
    """What is handed in is no number of a book."""


class NoDeed(BoastError):
    """What is handed in is no deed, or no list of deeds."""


class NoSets(BoastError):
    """What is handed in is no row of sets."""


class NoLong(BoastError):
    """What is handed in is no long row."""


class TooMany(BoastError):
    """More would be told, or be kept, than may be: so many."""

    def __init__(self, many):
        super().__init__(f"too many: {many}")
        self.many = many


class NoName(BoastError):
    """What is handed in is no name, or none that is there."""


class Taken(BoastError):
    """The name is one that is there."""


class NoneYet(BoastError):
    """There is no deed to take back, or to do again."""


class NoText(BoastError):
    """What is handed in is no text of this kind: the word at this number is at fault."""

    def __init__(self, at):
        super().__init__(f"no text: word {at}")
        self.at = at


class NoOrder(BoastError):
    """What is handed in is no order."""
