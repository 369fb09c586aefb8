"""The desk: a hall that is told orders, and answers."""

from boastrow.apart import least_apart
from boastrow.climbs import stretch_in
from boastrow.crowds import people_list
from boastrow.fewest import fewest, may_go
from boastrow.halls import Hall
from boastrow.orders import order_of
from boastrow.powers import need_few_to_lay
from boastrow.rounds import tellings
from boastrow.rows import need_place
from boastrow.sets import greatest_many
from boastrow.steps import in_front, step_behind
from boastrow.stretches import lot_of
from boastrow.tables import folds, never_comes, table_of
from boastrow.texts import show_pairs, show_row, show_saying, show_stretches, show_table

# The deeds, by the orders' words: as the hall calls them.
DEEDS = {
    "begin": "begin", "in": "step_in", "go": "go", "resay": "resay", "cut": "cut", "join": "join_to",
    "over": "say_over", "turn": "turn_about", "drop": "drop",
}
# What is asked of rows as the hall keeps them, and not laid out.
HALL_ASKS = ("names", "people", "total", "least", "speaks", "when", "gained")


def or_none(text):
    """The text, or `none` where there is nothing to tell."""
    return text if text else "none"


def number_text(number):
    """A number, or `none`."""
    return "none" if number is None else str(number)


def stretch_text(stretch):
    """A stretch, or `never`."""
    return "never" if stretch is None else show_saying(stretch)


def steps_text(told):
    """Who steps in, or the paper that nobody does."""
    if told[0] == "row":
        return or_none(show_row(told[1]))
    return f"{told[0]} {told[1]}"


def row_answer(word, row):
    """The answer to what is asked of one row."""
    if word == "show":
        return or_none(show_row(row))
    if word == "table":
        return show_table(table_of(row))
    if word == "never":
        return or_none(show_stretches(never_comes(table_of(row))))
    if word == "folds":
        return or_none(show_stretches(folds(table_of(row))))
    if word == "lot":
        return or_none(" ".join([stretch_text(stretch) for stretch in lot_of(row)]))
    if word == "fewest":
        return or_none(show_row(fewest(row)))
    if word == "gone":
        return or_none(" ".join([str(place) for place in may_go(row)]))
    return str(greatest_many(table_of(row)))


def two_answer(word, one, other):
    """The answer to what is asked of two rows."""
    if word == "apart":
        return number_text(least_apart(table_of(one), table_of(other)))
    if word == "front":
        return steps_text(in_front(table_of(one), table_of(other)))
    return steps_text(step_behind(table_of(one), table_of(other)))


class Desk:
    """A hall, which deeds and asks are told as texts."""

    def __init__(self):
        self._hall = Hall()

    def _laid(self, names):
        """The rows of these names laid out, each a list of sayings."""
        crowds = [self._hall.named(name) for name in names]
        for crowd in crowds:
            need_few_to_lay(crowd.size)
        return [people_list(crowd) for crowd in crowds]

    def _hall_answer(self, order):
        """The answer to what is asked of rows as the hall keeps them."""
        hall = self._hall
        word = order[0]
        if word == "names":
            return or_none(" ".join(hall.names()))
        if word == "people":
            return str(hall.people(order[1]))
        if word == "total":
            return str(hall.total(order[1], order[2]))
        if word == "least":
            return str(hall.least(order[1], order[2]))
        if word == "speaks":
            return "yes" if hall.speaks(order[1], order[2], order[3]) else "no"
        if word == "gained":
            return number_text(hall.gained(order[1], order[2]))
        crowd = hall.named(order[1])
        need_place(order[2], crowd.size)
        return stretch_text(stretch_in(crowd, order[2]))

    def _answer(self, order):
        """The answer to what is asked."""
        word = order[0]
        if word in HALL_ASKS:
            return self._hall_answer(order)
        if word == "round":
            return or_none(show_pairs(tellings(self._laid([order[1]])[0], company=order[2])))
        rows = self._laid(order[1:])
        return row_answer(word, rows[0]) if len(rows) == 1 else two_answer(word, rows[0], rows[1])

    def say(self, text):
        """Do or answer an order."""
        order = order_of(text)
        word = order[0]
        if word == "undo":
            self._hall.undo()
        elif word == "redo":
            self._hall.redo()
        elif word in DEEDS:
            things = order[1:]
            self._hall.do((DEEDS[word], *things))
        else:
            return self._answer(order)
        return "ok"

    def hall(self):
        """A twin of the hall."""
        return self._hall.twin()
