"""What several stages share: steps, stretches and wishes. Nothing here refuses: who calls has looked.

Steps are a list of tuples (c, many), c rising, the first 0: many holds from c to one below the next c.
"""


def last_step_to(steps, c):
    """The index of the last of the steps, or of stretches, that begins at c or ahead of it; 0 where none does."""
    low = 0
    high = len(steps)
    while high - low > 1:
        middle = (low + high) // 2
        if steps[middle][0] <= c:
            low = middle
        else:
            high = middle
    return low


def level_at(steps, c):
    """The many that holds at c."""
    return steps[last_step_to(steps, c)][1]


def levels_along(steps, points):
    """The many that holds at each of the points, which never fall."""
    out = []
    at = 0
    for c in points:
        while at + 1 < len(steps) and steps[at + 1][0] <= c:
            at += 1
        out.append(steps[at][1])
    return out


def first_apart(one, other):
    """The least c at which the manies of the steps, all of them unlike the ones ahead, are apart, or None."""
    for (c, many), (d, more) in zip(one, other):
        if c != d:
            return min(c, d)
        if many != more:
            return c
    if len(one) == len(other):
        return None
    # Whichever goes on has a step where the other one is level.
    return max(one, other, key=len)[min(len(one), len(other))][0]


def side_by_side(one, other):
    """The list of tuples (c, many, many): at each c at which one or the other begins a step, both manies."""
    points = sorted(set([c for c, _ in one + other]))
    return list(zip(points, levels_along(one, points), levels_along(other, points)))


def first_less(one, other):
    """The least c at which the many of the one is less than that of the other, or None."""
    for c, many, more in side_by_side(one, other):
        if many < more:
            return c
    return None


def levelled(steps):
    """The steps without those at which nothing changes."""
    out = []
    for c, many in steps:
        if not out or out[-1][1] != many:
            out.append((c, many))
    return out


def added_up(changes):
    """The steps of what begins with 0 and grows at each c by what the dict of changes has there."""
    many = changes.get(0, 0)
    out = [(0, many)]
    for c in sorted(changes):
        if c > 0:
            many += changes[c]
            out.append((c, many))
    return levelled(out)


def steps_below(table, total):
    """How many of the steps of a row's table begin with c and many together below the total."""
    low = 0
    high = len(table)
    while low < high:
        middle = (low + high) // 2
        if table[middle][0] + table[middle][1] < total:
            low = middle + 1
        else:
            high = middle
    return low


def reached(table, below, total):
    """The least c by which c and many together are at least the total, where so many steps begin below it."""
    if below == 0:
        return 0
    # The last of these steps comes to it by itself, or the next one does at its start.
    c = total - table[below - 1][1]
    if below < len(table):
        c = min(c, table[below][0])
    return c


def least_to_total(table, total):
    """The least c by which c and many together are at least the total; the table is a row's."""
    return reached(table, steps_below(table, total), total)


def least_to_totals(table, totals):
    """The same of each of the totals, which never fall."""
    out = []
    below = 0
    for total in totals:
        while below < len(table) and table[below][0] + table[below][1] < total:
            below += 1
        out.append(reached(table, below, total))
    return out


def stretch_to(first, beyond):
    """The stretch from first to one below beyond, without bound where beyond is None; None where nothing is left."""
    if beyond is None:
        return (first, None)
    if beyond <= first:
        return None
    return (first, beyond - 1)


def wish_behind(people, wish):
    """What comes of the wish behind all the people: the least company that does."""
    for least, most in people:
        if least < wish and (most is None or wish <= most + 1):
            wish -= 1
    return wish


def handed_on(saying, wish):
    """The wish that whoever has this saying hands on to the one behind."""
    return wish_behind([saying], wish)


def companies_within(people, saying):
    """The companies by which the total of these people is one that the saying lets be, as a stretch, or None."""
    least, most = saying
    first = wish_behind(people, least)
    if most is None:
        return stretch_to(first, None)
    return stretch_to(first, wish_behind(people, most + 1))


def said_of_company(row):
    """Of each person, front first, the stretch of the companies by which it speaks truly, or None."""
    return [companies_within(row[place + 1:], row[place]) for place in range(len(row))]


def changes_by(stretches):
    """A dict: at each c how many more of the stretches begin there than end at the number ahead of it."""
    changes = {}
    for first, last in stretches:
        changes[first] = changes.get(first, 0) + 1
        if last is not None:
            changes[last + 1] = changes.get(last + 1, 0) - 1
    return changes
