"""Texts: rows and long rows, tables, stretches, lots and shelves as they are written, and read back."""

from boastrow.errors import NoStretches, NoText
from boastrow.lots import is_lot
from boastrow.powers import is_long, need_long
from boastrow.shelves import is_mark, need_shelf
from boastrow.tables import need_table


def show_saying(saying):
    """A saying, or a stretch, as it is written."""
    least, most = saying
    return f"{least}-" if most is None else f"{least}-{most}"


def show_long(long):
    """A long row as it is written. Who calls has looked at it."""
    words = []
    # The agains that are begun, and wait for the first thing that stands in them.
    begun = ""
    waiting = []
    body = long
    at = 0
    while waiting or at < len(body):
        if at == len(body):
            if begun:
                words.append(begun)
                begun = ""
            words[-1] += ")"
            body, at = waiting.pop()
        elif len(body[at]) == 2:
            words.append(begun + show_saying(body[at]))
            begun = ""
            at += 1
        else:
            _, many, inner = body[at]
            begun += f"{many}*("
            waiting.append((body, at + 1))
            body = inner
            at = 0
    return " ".join(words)


def show_row(row):
    """A row, or a long row, as it is written."""
    need_long(row)
    return show_long(row)


def show_pairs(pairs):
    """Pairs of numbers as they are written in tables and shelves."""
    return " ".join([f"{number}:{many}" for number, many in pairs])


def show_table(table):
    """A table as it is written."""
    need_table(table)
    return show_pairs(table)


def show_stretches(stretches):
    """Stretches, or a lot, as they are written."""
    if not is_lot(stretches):
        raise NoStretches("a list or tuple of stretches is wanted")
    return " ".join([show_saying(stretch) for stretch in stretches])


def show_shelf(shelf):
    """A shelf as it is written."""
    need_shelf(shelf)
    return show_pairs(shelf)


def words_of(text):
    """The words of a text, or NoText of what is none."""
    if not isinstance(text, str):
        raise NoText(None)
    return text.split(" ") if text else []


def read_figures(text):
    """The number that the text writes, or None."""
    if not text or not all(["0" <= sign <= "9" for sign in text]) or (text[0] == "0" and len(text) > 1):
        return None
    return int(text)


def read_saying(text):
    """The saying, or the stretch, that the text writes, or None."""
    first, sign, second = text.partition("-")
    least = read_figures(first)
    if least is None or not sign:
        return None
    if not second:
        return (least, None)
    most = read_figures(second)
    return None if most is None or most < least else (least, most)


def read_pair(text):
    """The two numbers that the text writes, or None."""
    first, _, second = text.partition(":")
    number = read_figures(first)
    many = read_figures(second)
    return None if number is None or many is None else (number, many)


def read_word(word):
    """(manies, saying, ends): the agains that begin, a saying or None, how many agains end; or None."""
    manies = []
    begun, sign, left = word.partition("*(")
    while sign:
        many = read_figures(begun)
        if many is None:
            return None
        manies.append(many)
        begun, sign, left = left.partition("*(")
    written = begun.rstrip(")")
    ends = len(begun) - len(written)
    saying = read_saying(written)
    if saying is None and (written or not manies or ends == 0):
        return None
    return (manies, saying, ends)


def read_row(text):
    """The long row that the text writes."""
    words = words_of(text)
    out = []
    waiting = []
    for at, word in enumerate(words):
        read = read_word(word)
        if read is None:
            raise NoText(at)
        manies, saying, ends = read
        for many in manies:
            inner = []
            out.append(("again", many, inner))
            waiting.append(out)
            out = inner
        if saying is not None:
            out.append(saying)
        if ends > len(waiting):
            raise NoText(at)
        for _ in range(ends):
            out = waiting.pop()
    if waiting or not is_long(out):
        raise NoText(len(words))
    return out


def steps_on(table, step):
    """Whether the step can stand behind those of a table ahead of it."""
    if not table:
        return step[0] == 0
    return step[0] > table[-1][0] and step[1] != table[-1][1]


def stands_apart(stretches, stretch):
    """Whether the stretch can stand behind those that rise, none touching the next one."""
    return not stretches or (stretches[-1][1] is not None and stretch[0] > stretches[-1][1] + 1)


def marks_on(shelf, mark):
    """Whether it is a mark of a shelf, and can stand behind those ahead of it."""
    return is_mark(mark) and (not shelf or mark[0] > shelf[-1][0])


def stands_anyhow(lot, stretch):
    """Whether the stretch can stand behind those of a lot ahead of it: it always can."""
    return True


def read_each(text, read, fits):
    """What the words of the text write, one by one: read tells it, and fits whether it can stand behind those ahead."""
    out = []
    for at, word in enumerate(words_of(text)):
        thing = read(word)
        if thing is None or not fits(out, thing):
            raise NoText(at)
        out.append(thing)
    return out


def read_table(text):
    """The table that the text writes."""
    table = read_each(text, read_pair, steps_on)
    if not table:
        raise NoText(0)
    return table


def read_stretches(text):
    """The stretches that the text writes: they rise, and none touches the next one."""
    return read_each(text, read_saying, stands_apart)


def read_lot(text):
    """The lot that the text writes."""
    return read_each(text, read_saying, stands_anyhow)


def read_shelf(text):
    """The shelf that the text writes."""
    return read_each(text, read_pair, marks_on)
