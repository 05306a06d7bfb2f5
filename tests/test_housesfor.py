"""Point [33]: which houses."""

import itertools
import random
import unittest

from floorkeepers.housesfor import all_houses, first_against, houses_for
from tests.helper import Case, all_behind, entries_of, exact, random_run

LOG = (("ask", 0, 2), ("ask", 1, 2), ("ask", 0, 1), ("ask", 2, 2), ("ask", 1, 2))


def against_like(house, log):
    """The index of the first entry that cannot be by any keepers, all things being OUT at first."""
    states = [(len(house[1]),) * house[0]]
    for index, entry in enumerate(log):
        states = all_behind(house, states, entry)
        if not states:
            return index
    return None


class TestAllHouses(Case):

    def test_by_hand(self):
        self.same([len(all_houses(3, 1)), len(all_houses(3, 4)), len(all_houses(0, 2)), len(all_houses(9, 3))],
                  [8, 70, 28, 56])
        self.same(all_houses(3, 1), [(3, (1,)), (3, (2,)), (3, (3,)), (3, (4,)), (3, (5,)), (3, (6,)), (3, (7,)), (3, (8,))])
        self.same(all_houses(0, 2)[:9], [(0, (1, room)) for room in range(1, 8)] + [(0, (2, 1)), (0, (2, 2))])

    def test_all(self):
        for many, floors in itertools.product((0, 1, 5, 16), range(1, 5)):
            want = [(many, rooms) for rooms in itertools.product(range(1, 9), repeat=floors) if sum(rooms) <= 8]
            self.same(self.twice(all_houses, many, floors), want, many, floors)


class TestHousesFor(Case):

    def check(self, many, floors, log):
        ahead = exact(log)
        want = []
        for house in all_houses(many, floors):
            index = against_like(house, log)
            self.same(first_against(many, house[1], log), index, house, log)
            if index is None:
                want.append(house)
        self.same(self.twice(houses_for, many, floors, log), want, many, floors, log)
        self.assertEqual(exact(log), ahead)
        return want

    def test_by_hand(self):
        self.same([houses_for(3, 2, LOG), houses_for(3, 2, (("ask", 0, 2), ("ask", 0, 2))), first_against(3, (1, 2), LOG)],
                  [[(3, (1, 1))], [], 4])
        self.same(houses_for(2, 1, (("ask", 0, 1), ("ask", 1, 1), ("ask", 0, 0)))[:2], [(2, (2,)), (2, (3,))])
        self.same([first_against(3, (1, 1), LOG), first_against(3, (1, 1), LOG[:2] + LOG[:1]), first_against(3, (2,), ())],
                  [None, 2, None])
        self.check(3, 2, LOG)

    def test_logs_that_no_house_lets(self):
        for log in [(("ask", 0, 0),), (("strike", 1, 1),), (("ask", 0, 2), ("ask", 0, 2)), (("ask", 0, 2), ("ask", 0, 1)),
                    LOG + (("strike", 0, 2), ("strike", 0, 0))]:
            self.same(self.check(3, 2, log), [], log)
        self.same([first_against(3, rooms, (("ask", 0, 0),)) for rooms in ((1, 1), (4, 4))], [0, 0])

    def test_no_log_and_no_things(self):
        for many, floors in [(0, 1), (0, 3), (4, 2), (1, 4)]:
            self.same(houses_for(many, floors, ()), all_houses(many, floors), many, floors)
            self.same(first_against(many, (1,) * floors, ()), None, many, floors)

    def test_more_rooms_than_things(self):
        # By such a house nothing is put down further than needed.
        log = (("ask", 0, 1), ("ask", 1, 1), ("ask", 0, 0), ("ask", 1, 0))
        self.same(houses_for(2, 1, log), [(2, (room,)) for room in range(2, 9)])
        self.same([first_against(2, (room,), log) for room in (1, 2, 8)], [2, None, None])
        self.check(2, 2, (("ask", 0, 2), ("ask", 1, 2), ("ask", 0, 1)))

    def test_small_houses(self):
        dice = random.Random(33)
        told = [0, 0]
        for many, floors in [(1, 1), (2, 1), (4, 1), (2, 2), (3, 2), (4, 2), (3, 3), (2, 4), (3, 4)]:
            for _ in range(3):
                house = dice.choice(all_houses(many, floors)[:12])
                log = random_run(dice, house, (floors,) * many, 6)[1]
                self.assertIn(house, self.check(many, floors, log))
                other = log[:4] + (dice.choice(entries_of(house)),) + log[4:]
                told[len(self.check(many, floors, other)) > 0] += 1
        self.assertGreater(min(told), 2)

    def test_large_houses(self):
        dice = random.Random(34)
        for rooms in [(2, 2, 2, 2), (1, 1, 1, 5), (8,), (3, 4), (1, 3, 2)]:
            house, floors = (16, rooms), len(rooms)
            log = random_run(dice, house, (floors,) * 16, 60)[1]
            found = houses_for(16, floors, log)
            self.assertIn(house, found)
            self.assertEqual(found, sorted(found))
            for other in all_houses(16, floors):
                index = first_against(16, other[1], log)
                self.assertEqual(index is None, other in found)
                if index is not None:
                    self.same(first_against(16, other[1], log[:index]), None, other, log)
                    self.same(first_against(16, other[1], log[:index + 1]), index, other, log)


if __name__ == "__main__":
    unittest.main()
