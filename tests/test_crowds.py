"""The shared crowds and climbs: crowds put together and parted, against lists of their people."""

import random
import unittest
from unittest import mock

from boastrow.climbs import Climb, come_of, wish_of
from boastrow.crowds import (
    crowd_of, flat_if_few, gathered, long_of, people_list, put_together, row_crowd, said_over, saying_in, split_crowd,
    turned_about,
)
from boastrow.levels import wish_behind
from tests.helper import some_saying
from tests.long_helper import lay_by_hand, some_longs
from tests.test_far import walked_far


def people_of(crowd):
    """The people of a crowd, one by one."""
    return [saying_in(crowd, place) for place in range(crowd.size)]


def grown_by_chance(chance, deeds):
    """(crowd, row): put together, said over and parted by chance, and the same done to a list."""
    crowd, row = row_crowd([]), []
    for _ in range(deeds):
        more = [some_saying(chance, 60) for _ in range(chance.randint(0, 30))]
        deed = chance.randint(0, 3)
        if deed == 0:
            crowd, row = put_together(crowd, crowd_of(more)), row + more
        elif deed == 1:
            crowd, row = put_together(crowd_of(more), crowd), more + row
        elif deed == 2 and len(row) < 400:
            times = chance.randint(0, 3)
            crowd, row = said_over(crowd, times), row * times
        else:
            place = chance.randint(0, len(row))
            front, back = split_crowd(crowd, place)
            crowd, row = put_together(back, front), row[place:] + row[:place]
    return (crowd, row)


class Crowds(unittest.TestCase):
    def test_of_long_rows(self):
        for long in some_longs(701, 80):
            self.assertEqual(people_of(crowd_of(long)), lay_by_hand(long))

    def test_put_together_and_parted(self):
        chance = random.Random(702)
        for _ in range(40):
            crowd, row = grown_by_chance(chance, 12)
            self.assertEqual(people_of(crowd), row)
            for place in {0, len(row), chance.randint(0, len(row)), chance.randint(0, len(row))}:
                front, back = split_crowd(crowd, place)
                self.assertEqual((people_of(front), people_of(back)), (row[:place], row[place:]))
            self.assertEqual(people_of(crowd), row)

    def test_told_and_turned_about(self):
        chance = random.Random(705)
        for _ in range(30):
            crowd, row = grown_by_chance(chance, 12)
            self.assertEqual(people_list(crowd), row)
            self.assertEqual(lay_by_hand(long_of(crowd)), row)
            self.assertEqual(people_of(turned_about(crowd)), row[::-1])
            self.assertEqual(turned_about(turned_about(crowd)), crowd)
            self.assertEqual(people_of(flat_if_few(crowd)), row)
            self.assertEqual(people_of(crowd), row)

    def test_they_stay_low(self):
        for ahead in (True, False):
            crowd = row_crowd([])
            for at in range(2000):
                more = row_crowd([(at, at)] * 16)
                crowd = put_together(more, crowd) if ahead else put_together(crowd, more)
            self.assertLess(crowd.height, 14)
            for part in (3, 7, 2, 5) * 12:
                front, back = split_crowd(crowd, crowd.size // part)
                crowd = put_together(back, front)
            self.assertLess(crowd.height, 17)
            self.assertEqual(crowd.size, 32000)
        self.assertEqual(gathered([row_crowd([(0, 1)] * 16)] * 1024).height, 10)

    def test_they_stay_low_said_over_and_parted_again_and_again(self):
        chance = random.Random(706)
        crowd = crowd_of([some_saying(chance, 60) for _ in range(200)])
        for _ in range(12):
            crowd = said_over(crowd, 90)
            for _ in range(10):
                front, back = split_crowd(crowd, chance.randint(0, crowd.size))
                crowd = put_together(put_together(front, row_crowd([(5, 5)])), back)
            self.assertLess(crowd.height, 16)
        self.assertGreater(crowd.size, 10 ** 25)

    def test_climbs_and_wishes(self):
        self.climb_and_wish(random.Random(703))
        with mock.patch("boastrow.crowds.FEW", -1), mock.patch("boastrow.crowds.OFTEN", -1):
            self.climb_and_wish(random.Random(704))

    def climb_and_wish(self, chance):
        """Climbs and wishes against the people one by one."""
        for _ in range(60):
            crowd, row = grown_by_chance(chance, 8)
            for _ in range(5):
                company, people = chance.randint(0, 60), chance.randint(0, len(row))
                behind = row[len(row) - people:]
                total = walked_far(behind, company)[2]
                self.assertEqual(come_of(crowd, company, people), total)
                self.assertEqual(wish_of(crowd, company, people), wish_behind(behind, company))
                if total > company:
                    goal = chance.randint(company + 1, total)
                    climb = Climb(crowd, company)
                    climb.go(crowd.size, goal)
                    self.assertEqual(climb.value, goal)
                    self.assertEqual(come_of(crowd, company, climb.passed), goal)
                    self.assertEqual(come_of(crowd, company, climb.passed - 1), goal - 1)
