"""Point [22]: floors of a thing, with the guarantee [6]."""

import random
import unittest

from floorkeepers.floors import barred_things, floors_of, may_be_within, sure_things, surely_within
from floorkeepers.leading import first_knowledge
from tests.helper import (Case, counted_ways, exact, known_behind_logs, random_knowledges, small_knowledges)

HOUSE, KNOWN = (4, (1, 1)), ((2, 1, 0, 3), ((0, 1, 1, 1, 1), (0, 1, 1, 2, 2)))


class TestFloors(Case):

    def check(self, house, known, places):
        """All that is told of each thing, places being the floors at which it stands in states that fit."""
        many, rooms = house
        ahead = exact(known)
        sure = [[max(places[x]) <= floor for x in range(many)] for floor in range(len(rooms))]
        may = [[min(places[x]) <= floor for x in range(many)] for floor in range(len(rooms))]
        for floor in range(len(rooms)):
            for x in range(many):
                self.same(surely_within(known, x, floor), sure[floor][x], house, known, x, floor)
                self.same(may_be_within(known, x, floor), may[floor][x], house, known, x, floor)
            self.same(sure_things(known, floor), tuple(x for x in range(many) if sure[floor][x]), house, known, floor)
            self.same(barred_things(known, floor), tuple(x for x in range(many) if not may[floor][x]), house, known)
        for x in range(many):
            self.same(floors_of(house, known, x), tuple(sorted(places[x])), house, known, x)
        self.assertEqual(exact(known), ahead)

    def check_gaps(self, house, known):
        """No floor with things, by the sizes, is missing between two on which a thing may stand."""
        ends = [0] + [word[-1] for word in known[1]]
        stood = [floor for floor in range(len(house[1])) if ends[floor + 1] > ends[floor]] + [len(house[1])]
        for x in range(house[0]):
            found = floors_of(house, known, x)
            self.same(found, tuple(floor for floor in stood if found[0] <= floor <= found[-1]), house, known, x)

    def test_by_hand(self):
        self.same([floors_of(HOUSE, KNOWN, x) for x in range(4)], [(1, 2), (1, 2), (0,), (2,)])
        self.same([sure_things(KNOWN, 0), sure_things(KNOWN, 1)], [(2,), (2,)])
        self.same([barred_things(KNOWN, 0), barred_things(KNOWN, 1)], [(0, 1, 3), (3,)])
        self.same([surely_within(KNOWN, 1, 1), may_be_within(KNOWN, 1, 1), may_be_within(KNOWN, 1, 0)],
                  [False, True, False])
        self.same([sure_things(((), ((0,), (0,))), 1), barred_things(((), ((0,), (0,))), 0)], [(), ()])

    def test_ascending_whatever_the_order(self):
        known = ((3, 1, 2, 0), ((0, 1, 2, 2, 2), (0, 1, 2, 3, 3)))
        self.same([sure_things(known, 0), sure_things(known, 1)], [(1, 3), (1, 2, 3)])
        self.same([barred_things(known, 0), barred_things(known, 1)], [(0, 2), (0,)])

    def test_floors_without_things(self):
        # Floor 1 has none by the sizes; 0 and 1 stand on floor 0 or 2, or OUT.
        house, known = (3, (1, 1, 1)), ((1, 0, 2), ((0, 0, 1, 1), (0, 0, 1, 1), (0, 1, 2, 2)))
        self.same([floors_of(house, known, x) for x in range(3)], [(0, 2), (0, 2), (3,)])
        known = first_knowledge((2, (1, 1)), (2, 2))
        self.same([floors_of((2, (1, 1)), known, x) for x in range(2)], [(2,), (2,)])
        known = first_knowledge((2, (3, 1)), (0, 0))
        self.same([floors_of((2, (3, 1)), known, x) for x in range(2)], [(0,), (0,)])
        known = first_knowledge((2, (3, 1)), (1, 2))
        self.same([floors_of((2, (3, 1)), known, x) for x in range(2)], [(1,), (2,)])

    def test_out_where_no_thing_is_out(self):
        house = (2, (1, 1))
        self.same([floors_of(house, first_knowledge(house, None), x) for x in range(2)], [(0, 1), (0, 1)])

    def test_at_first(self):
        house = (16, (3, 3, 3, 3))
        known = first_knowledge(house, None)
        self.same([floors_of(house, known, x) for x in range(16)], [(0, 1, 2, 3, 4)] * 16)
        start = (4, 0, 1, 2, 3, 4, 0, 1, 2, 3, 4, 0, 1, 2, 3, 4)
        self.same([floors_of(house, first_knowledge(house, start), x) for x in range(16)], [(at,) for at in start])

    def test_small_houses(self):
        for house, known, states in small_knowledges():
            self.check(house, known, [{state[x] for state in states} for x in range(house[0])])
            self.check_gaps(house, known)

    def test_large_houses(self):
        dice = random.Random(22)
        for house, known in random_knowledges(dice, 1) + known_behind_logs(dice, 1):
            ways = counted_ways(house, known)
            self.check(house, known, [set(floor for x, floor in ways if x == thing) for thing in range(house[0])])
            self.check_gaps(house, known)

    def test_gaps(self):
        dice = random.Random(23)
        for house, known in random_knowledges(dice, 12) + known_behind_logs(dice, 4):
            self.check_gaps(house, known)


if __name__ == "__main__":
    unittest.main()
