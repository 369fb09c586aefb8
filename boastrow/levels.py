"""What several stages share: steps, stretches and wishes. Nothing here refuses: who calls has looked.

Steps are a list of tuples (c, many), c rising, the first 0: many holds from c to one below the next c.
"""


def last_step_to(steps, c):
    """The index of the last of the steps that begins at c or ahead of it."""
    low = 0
    high = len(steps)
    while high - low > 1:
        middle = (low + high) // 2
        if steps[middle][0] <= c:
            low = middle
        else:
            high = middle
    return low


def level_at(steps, c):
    """The many that holds at c."""
    return steps[last_step_to(steps, c)][1]


def starts_of(one, other):
    """Each c at which one or the other begins a step, rising."""
    return sorted(set([step[0] for step in one + other]))


def levelled(steps):
    """The steps without those at which nothing changes."""
    out = []
    for c, many in steps:
        if not out or out[-1][1] != many:
            out.append((c, many))
    return out


def added_up(changes):
    """The steps of what begins with 0 and grows at each c by what the dict of changes has there."""
    many = changes.get(0, 0)
    out = [(0, many)]
    for c in sorted(changes):
        if c > 0:
            many += changes[c]
            out.append((c, many))
    return levelled(out)


def least_to_total(table, total):
    """The least c by which c and many together are at least the total; the table is a row's."""
    low = 0
    high = len(table)
    while low < high:
        middle = (low + high) // 2
        if table[middle][0] + table[middle][1] < total:
            low = middle + 1
        else:
            high = middle
    if low == 0:
        return 0
    # The step ahead begins below the total: it comes to it by itself, or the next one does at its start.
    c = total - table[low - 1][1]
    if low < len(table):
        c = min(c, table[low][0])
    return c


def stretch_to(first, beyond):
    """The stretch from first to one below beyond, without bound where beyond is None; None where nothing is left."""
    if beyond is None:
        return (first, None)
    if beyond <= first:
        return None
    return (first, beyond - 1)


def wish_behind(people, wish):
    """What comes of the wish behind all the people: the least company that does."""
    for least, most in people:
        if least < wish and (most is None or wish <= most + 1):
            wish -= 1
    return wish


def handed_on(saying, wish):
    """The wish that whoever has this saying hands on to the one behind."""
    return wish_behind([saying], wish)


def companies_within(people, saying):
    """The companies by which the total of these people is one that the saying lets be, as a stretch, or None."""
    least, most = saying
    first = wish_behind(people, least)
    if most is None:
        return stretch_to(first, None)
    return stretch_to(first, wish_behind(people, most + 1))


def said_of_company(row):
    """Of each person, front first, the stretch of the companies by which it speaks truly, or None."""
    return [companies_within(row[place + 1:], row[place]) for place in range(len(row))]


def changes_by(stretches):
    """A dict: at each c how many more of the stretches begin there than end at the number ahead of it."""
    changes = {}
    for first, last in stretches:
        changes[first] = changes.get(first, 0) + 1
        if last is not None:
            changes[last + 1] = changes.get(last + 1, 0) - 1
    return changes
