"""Long rows, far out: what comes of them, told without going through their people one by one."""

from boastrow.climbs import Climb, come_of, count_true, speaks_in, stretch_in, wish_of
from boastrow.crowds import FEW, crowd_of, row_crowd, said_over
from boastrow.powers import lay, need_long, spots_of, times_among
from boastrow.rows import is_number, need_number, need_place


def people_of(long):
    """The people of a long row, as a crowd, or NoLong."""
    people = need_long(long)
    return row_crowd(lay(long)) if people <= FEW else crowd_of(long)


def far_total(long, company):
    """The total, as of the row laid out."""
    crowd = people_of(long)
    need_number(company)
    return come_of(crowd, company, crowd.size)


def least_company(long, total):
    """The least company by which the total is at least this one."""
    crowd = people_of(long)
    need_number(total)
    return wish_of(crowd, total, crowd.size)


def ever_comes(long, total):
    """Whether this is the total of any company."""
    crowd = people_of(long)
    need_number(total)
    return come_of(crowd, wish_of(crowd, total, crowd.size), crowd.size) == total


def is_folded(long, company):
    """Whether the next company has the same total."""
    crowd = people_of(long)
    need_number(company)
    return come_of(crowd, company, crowd.size) == come_of(crowd, company + 1, crowd.size)


def far_heard(long, company, place):
    """What the person at the place hears."""
    crowd = people_of(long)
    need_number(company)
    need_place(place, crowd.size)
    return come_of(crowd, company, crowd.size - 1 - place)


def far_speaks(long, company, place):
    """Whether the person at the place speaks truly."""
    crowd = people_of(long)
    need_number(company)
    need_place(place, crowd.size)
    return speaks_in(crowd, company, place)


def true_among(long, company, many):
    """How many of so many people in front speak truly."""
    crowd = people_of(long)
    need_number(company)
    need_place(many, crowd.size + 1)
    climb = Climb(crowd, company)
    climb.go(crowd.size - many, None)
    behind = climb.value
    climb.go(crowd.size, None)
    return climb.value - behind


def so_manieth(long, company, number):
    """The place of the so-manieth who speaks truly, from 0 on from the front, or None."""
    crowd = people_of(long)
    need_number(company)
    need_number(number)
    goal = come_of(crowd, company, crowd.size) - number
    if goal <= company:
        return None
    climb = Climb(crowd, company)
    climb.go(crowd.size, goal)
    return crowd.size - climb.passed


def passed_at(crowd, company, goals):
    """A dict: of each of the goals, which rise, how many of the hindmost people hear less than it."""
    climb = Climb(crowd, company)
    passed = {}
    for goal in goals:
        # Whoever never comes to the goal goes to the front, past all.
        if climb.value < goal:
            climb.go(crowd.size, goal)
        passed[goal] = climb.passed
    return passed


def account_of(long, crowd, company):
    """The account of the long row, whose people the crowd are."""
    _, spots = spots_of(long)
    numbers = [spot.said[0] for spot in spots]
    numbers += [spot.said[1] + 1 for spot in spots if spot.said[1] is not None]
    passed = passed_at(crowd, company, sorted(set(numbers)))
    out = []
    for spot in spots:
        least, most = spot.said
        few = times_among(spot, passed[least])
        out.append((few, times_among(spot, crowd.size if most is None else passed[most + 1]) - few))
    return out


def account(long, company):
    """The list of tuples (few, true): of each written saying how many times hear less, how many speak truly."""
    crowd = people_of(long)
    need_number(company)
    return account_of(long, crowd, company)


def is_account(thing):
    """Whether the thing, anything, is a list of tuples of two numbers."""
    if not isinstance(thing, list) or not all([isinstance(one, tuple) and len(one) == 2 for one in thing]):
        return False
    return all([is_number(few) and is_number(true) for few, true in thing])


def account_holds(long, company, thing):
    """Whether the thing, anything, is the account by the company."""
    crowd = people_of(long)
    need_number(company)
    return is_account(thing) and thing == account_of(long, crowd, company)


def stretch_at(long, place):
    """The companies by which the person at the place speaks truly: a stretch, or None."""
    crowd = people_of(long)
    need_place(place, crowd.size)
    return stretch_in(crowd, place)


def times_for(people, crowd):
    """How many times the crowd, of somebody, must be said to have at least so many people."""
    return -(-people // crowd.size)


def times_until(long, company, total):
    """How many times the long row must be said, at the least, for a total of at least so many; or None."""
    need_long(long)
    need_number(company)
    need_number(total)
    if total <= company:
        return 0
    crowd = crowd_of(long)
    # Each time but those behind which nobody is added adds somebody.
    many = said_over(crowd, total - company)
    climb = Climb(many, company)
    climb.go(many.size, total)
    return times_for(climb.passed, crowd) if climb.value == total else None


def rest_of(long, company):
    """(times, total): from how many times on one time more adds nobody, and the total then; or None."""
    need_long(long)
    need_number(company)
    crowd = crowd_of(long)
    if crowd.size == 0:
        return (0, company)
    count_true(crowd)
    last = crowd.points[-1]
    # Each time adds somebody up to the rest, so that by so many times it is there, or past all points for ever.
    many = said_over(crowd, max(last - company, 0))
    total = come_of(many, company, many.size)
    if total >= last and crowd.manies[-1] > 0:
        return None
    if total == company:
        return (0, company)
    climb = Climb(many, company)
    climb.go(many.size, total)
    return (times_for(climb.passed, crowd), total)
