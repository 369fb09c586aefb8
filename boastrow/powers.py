"""Long rows: sayings, and long rows said over so many times; who stands where in them."""

from boastrow.errors import NoLong, NoPlace, TooMany
from boastrow.levels import last_step_to
from boastrow.rows import is_number, is_row, need_place

# A long row has fewer people than this.
PEOPLE_BOUND = 10 ** 30
MOST_LAID_OUT = 300
# What goes deeper than any text or hall makes it is a list that stands within itself.
DEEPEST = 10000


def is_again(thing):
    """Whether the thing is a tuple ("again", many, list or tuple)."""
    if not isinstance(thing, tuple) or len(thing) != 3 or not isinstance(thing[0], str) or thing[0] != "again":
        return False
    return is_number(thing[1]) and isinstance(thing[2], (list, tuple))


def count_people(thing):
    """How many people the thing has, however many these are; None of what has not the form of a long row."""
    if not isinstance(thing, (list, tuple)):
        return None
    people = 0
    waiting = [(thing, 1, 0)]
    while waiting:
        body, times, depth = waiting.pop()
        agains = [item for item in body if isinstance(item, tuple) and len(item) == 3]
        sayings = [item for item in body if not isinstance(item, tuple) or len(item) != 3] if agains else body
        if not is_row(sayings) or depth > DEEPEST or not all([is_again(item) for item in agains]):
            return None
        people += times * len(sayings)
        waiting += [(inner, times * many, depth + 1) for _, many, inner in agains]
    return people


def is_long(thing):
    """Whether the thing is a long row."""
    people = count_people(thing)
    return people is not None and people < PEOPLE_BOUND


def need_long(thing):
    """Refuse what is no long row; told is how many people it has."""
    people = count_people(thing)
    if people is None or people >= PEOPLE_BOUND:
        raise NoLong("a list or tuple of sayings and agains is wanted, of fewer than 10 ** 30 people")
    return people


def lay(long):
    """The long row laid out, a new list. Who calls has looked at it, and at how many people it has."""
    waiting = []
    body = long
    at = 0
    out = []
    while waiting or at < len(body):
        if at == len(body):
            body, at, many, ahead = waiting.pop()
            # Nobody may be said more often than a list can be.
            out = ahead + out * many if out else ahead
        elif len(body[at]) == 2:
            out.append(body[at])
            at += 1
        else:
            _, many, inner = body[at]
            waiting.append((body, at + 1, many, out))
            # What is said no time may have more people than can be laid out.
            body = inner if many > 0 else ()
            at = 0
            out = []
    return out


def copied(long):
    """The long row anew, lists within agains, too. Who calls has looked at it."""
    out = []
    waiting = [(long, out)]
    while waiting:
        body, told = waiting.pop()
        for item in body:
            if len(item) == 2:
                told.append(item)
            else:
                inner = []
                told.append(("again", item[1], inner))
                waiting.append((item[2], inner))
    return out


def people_in(long):
    """How many people the long row has."""
    return need_long(long)


def need_few_to_lay(people):
    """Refuse to lay out more people than may be laid out."""
    if people > MOST_LAID_OUT:
        raise TooMany(people)


def laid_out(long):
    """The long row as a row."""
    need_few_to_lay(need_long(long))
    return lay(long)


class Part:
    """What stands in an again, or in a whole long row: said so many times, and where of its outer part."""

    def __init__(self, body, many, outer, behind):
        self.body = body
        self.many = many
        self.outer = outer
        # The people behind it, of one time of its outer part.
        self.behind = behind
        # Of one time of it the people, and what stands in it: (people behind, spot or part), from the back on.
        self.size = 0
        self.held = []


class Spot:
    """A written saying: of which part, how many people of one time of it are behind, its number from the back."""

    def __init__(self, saying, part, behind, number):
        self.said = saying
        self.part = part
        self.behind = behind
        self.number = number


def spots_of(long):
    """(part, spots): the whole, and the written sayings, front first. Who calls has looked at it."""
    part = Part(long, 1, None, 0)
    spots = []
    ahead = []
    at = len(long)
    while ahead or at > 0:
        if at == 0:
            part.outer.size += part.many * part.size
            part = part.outer
            at = ahead.pop()
            continue
        at -= 1
        item = part.body[at]
        if len(item) == 2:
            spot = Spot(item, part, part.size, len(spots))
            spots.append(spot)
            part.held.append((part.size, spot))
            part.size += 1
        else:
            ahead.append(at)
            inner = Part(item[2], item[1], part, part.size)
            part.held.append((part.size, inner))
            part = inner
            at = len(part.body)
    return (part, spots[::-1])


def spot_at(whole, behind):
    """(spot, time): whose the person is behind whom stand so many."""
    held = whole
    left = behind
    time = 0
    while isinstance(held, Part):
        times, left = divmod(left, held.size)
        time = time * held.many + times
        # Of those that begin there the last one: whatever is behind it has nobody.
        begun, inner = held.held[last_step_to(held.held, left)]
        left -= begun
        held = inner
    return (held, time)


def saying_at(long, place):
    """The saying of the person at the place."""
    people = need_long(long)
    need_place(place, people)
    return spot_at(spots_of(long)[0], people - 1 - place)[0].said


def which_at(long, place):
    """(number, time): of which written saying the person at the place is, and which time of this."""
    people = need_long(long)
    need_place(place, people)
    whole, spots = spots_of(long)
    spot, time = spot_at(whole, people - 1 - place)
    return (len(spots) - 1 - spot.number, time)


def behind_of(spot, time):
    """How many people are behind this time of the spot, or None where it has no such time."""
    behind = spot.behind
    part = spot.part
    while part is not None:
        if part.many == 0:
            return None
        time, times = divmod(time, part.many)
        behind += times * part.size + part.behind
        part = part.outer
    return behind if time == 0 else None


def place_of(long, number, time):
    """The place of this time of the written saying of this number."""
    people = need_long(long)
    spots = spots_of(long)[1]
    need_place(number, len(spots))
    behind = behind_of(spots[number], time) if is_number(time) else None
    if behind is None:
        raise NoPlace("the saying has no such time")
    return people - 1 - behind


def times_among(spot, people):
    """How many times of the spot are among so many of the hindmost people."""
    parts = []
    part = spot.part
    while part is not None:
        parts.append(part)
        part = part.outer
    times = 0
    left = people
    for part in reversed(parts):
        left = max(0, left - part.behind)
        if left >= part.many * part.size:
            full = part.many
            left = 0
        else:
            full, left = divmod(left, part.size)
        times = times * part.many + full
    return times + 1 if left > spot.behind else times
