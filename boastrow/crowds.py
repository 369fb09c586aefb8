"""Crowds: people one behind the other, however many; no part of the interface. Nothing here refuses.

A crowd is never changed once it is made, so that one may stand in many others, and what is known of it is kept.
"""

# A short row of so many people at most is not parted any more.
SHORT = 16
# Up to so many people, or so many for each saying that is written, are walked person by person: that is sooner than to
# count where they need not be.
FEW = 1000
OFTEN = 20
# A crowd of so many levels at most is put into another one as it is.
LOW = 2


class Crowd:
    """A short row; or two crowds, one behind the other; or one crowd said over, perhaps but once."""

    def __init__(self, row, front, back, times):
        # Of a short row only the row is told, of two crowds these, of one said over that as the back, and how often.
        self.row = row
        self.front = front
        self.back = back
        self.times = times
        # How many people they are, of how many sayings where each crowd that is said over is written once.
        self.height = 0
        if back is None:
            self.size = len(row)
            self.written = len(row)
        elif front is None:
            self.size = times * back.size
            self.written = back.written
        else:
            self.size = front.size + back.size
            self.written = front.written + back.written
            self.height = max(front.height, back.height) + 1
        # As soon as it is asked: from each of the points on so many people would speak truly if all heard just that.
        self.points = None
        self.manies = None
        # As soon as it is asked: the same people turned about.
        self.turned = None


def row_crowd(row):
    """A crowd of the people of a row."""
    return Crowd(row, None, None, 0)


def nobody():
    """A crowd of nobody."""
    return row_crowd([])


def said_over(crowd, times):
    """The crowd so many times, one behind the other."""
    if times == 0 or crowd.size == 0:
        return nobody()
    if times == 1:
        return crowd
    if crowd.times > 0:
        return Crowd(None, None, crowd.back, times * crowd.times)
    if crowd.size * times <= SHORT:
        return row_crowd(crowd.row * times)
    return Crowd(None, None, crowd, times)


def paired(front, back):
    """Two crowds of about the same height, neither of nobody, one behind the other."""
    if front.row is not None and back.row is not None and front.size + back.size <= SHORT:
        return row_crowd(front.row + back.row)
    return Crowd(None, front, back, 0)


def levelled_pair(front, back):
    """Two crowds, of which one is perhaps a little too high beside the other one, put together level."""
    if back.height > front.height + 1:
        if back.front.height > back.back.height:
            inner = back.front
            return paired(paired(front, inner.front), paired(inner.back, back.back))
        return paired(paired(front, back.front), back.back)
    if front.height > back.height + 1:
        if front.back.height > front.front.height:
            inner = front.back
            return paired(paired(front.front, inner.front), paired(inner.back, back))
        return paired(front.front, paired(front.back, back))
    return paired(front, back)


def put_together(front, back):
    """Two crowds, one behind the other."""
    if front.size == 0:
        return back
    if back.size == 0:
        return front
    if front.height > back.height + 1:
        return levelled_pair(front.front, put_together(front.back, back))
    if back.height > front.height + 1:
        return levelled_pair(put_together(front, back.front), back.back)
    return paired(front, back)


def gathered(crowds):
    """All of the crowds, one behind the other."""
    if len(crowds) < 2:
        return crowds[0] if crowds else nobody()
    middle = len(crowds) // 2
    return put_together(gathered(crowds[:middle]), gathered(crowds[middle:]))


def short_rows(row):
    """A row as a list of crowds of short rows."""
    return [row_crowd(row[at:at + SHORT]) for at in range(0, len(row), SHORT)]


def crowd_of(long):
    """The people of a long row."""
    waiting = []
    body = long
    at = 0
    crowds = []
    run = []
    while True:
        if at < len(body) and len(body[at]) == 2:
            run.append(body[at])
            at += 1
            continue
        crowds += short_rows(run)
        run = []
        if at < len(body):
            _, many, inner = body[at]
            waiting.append((body, at + 1, many, crowds))
            body = inner if many > 0 else ()
            at = 0
            crowds = []
        elif waiting:
            said = said_over(gathered(crowds), waiting[-1][2])
            body, at, _, crowds = waiting.pop()
            crowds.append(said)
        else:
            return gathered(crowds)


def people_list(crowd):
    """The people of a crowd of few, one by one, front first."""
    out = []
    waiting = [crowd]
    while waiting:
        inner = waiting.pop()
        if inner.row is not None:
            out += inner.row
        elif inner.times > 0:
            waiting += [inner.back] * inner.times
        else:
            waiting += [inner.back, inner.front]
    return out


def flat_if_few(crowd):
    """The crowd as one row, where its people are few beside what is written; else as it is."""
    if crowd.row is not None or (crowd.size > FEW and crowd.size > OFTEN * crowd.written):
        return crowd
    return row_crowd(people_list(crowd))


def turned_about(crowd):
    """The crowd turned about: who stood last stands in front, and so on."""
    waiting = [crowd]
    while waiting:
        inner = waiting[-1]
        parts = [part for part in (inner.front, inner.back) if part is not None and part.turned is None]
        if inner.turned is not None:
            waiting.pop()
        elif parts:
            waiting += parts
        else:
            if inner.row is not None:
                turned = row_crowd(inner.row[::-1])
            elif inner.times > 0:
                turned = Crowd(None, None, inner.back.turned, inner.times)
            else:
                turned = Crowd(None, inner.back.turned, inner.front.turned, 0)
            inner.turned = turned
            turned.turned = inner
    return crowd.turned


def long_of(crowd):
    """A long row of the crowd's people, lists within agains, too."""
    out = []
    waiting = [(crowd, out)]
    while waiting:
        inner, told = waiting.pop()
        if inner.row is not None:
            told += inner.row
        elif inner.times == 1:
            waiting.append((inner.back, told))
        elif inner.times > 1:
            said = []
            told.append(("again", inner.times, said))
            waiting.append((inner.back, said))
        else:
            waiting.append((inner.back, told))
            waiting.append((inner.front, told))
    return out


def closed(crowd):
    """The crowd as one piece of another one, which need not be made level with all that is in it."""
    return Crowd(None, None, crowd, 1) if crowd.height > LOW else crowd


def split_crowd(crowd, place):
    """(front, back): the crowd parted at a place, at most its size."""
    if place == 0:
        return (nobody(), crowd)
    if place == crowd.size:
        return (crowd, nobody())
    # The pieces ahead of the place and behind it, the outermost first, None where one goes into a crowd said over.
    fronts = []
    backs = []
    inner = crowd
    left = place
    while inner.row is None:
        if inner.times > 0:
            times, left = divmod(left, inner.back.size)
            fronts += [said_over(inner.back, times), None]
            backs += [said_over(inner.back, inner.times - 1 - times), None]
            inner = inner.back
        elif left < inner.front.size:
            backs.append(inner.back)
            inner = inner.front
        else:
            fronts.append(inner.front)
            left -= inner.front.size
            inner = inner.back
    front = row_crowd(inner.row[:left])
    back = row_crowd(inner.row[left:])
    for piece in reversed(fronts):
        front = closed(front) if piece is None else put_together(piece, front)
    for piece in reversed(backs):
        back = closed(back) if piece is None else put_together(back, piece)
    return (front, back)


def saying_in(crowd, place):
    """The saying of the person at the place."""
    inner = crowd
    left = place
    while inner.row is None:
        if inner.times > 0:
            left = left % inner.back.size
            inner = inner.back
        elif left < inner.front.size:
            inner = inner.front
        else:
            left -= inner.front.size
            inner = inner.back
    return inner.row[left]
