"""Point [13]: houses and states."""

import itertools
import math
import unittest

from floorkeepers.errors import TooMany
from floorkeepers.houses import (all_states, empty_state, filled_up, rooms_within, sizes_of, things_on,
                                 things_within)
from tests.helper import Case, HOUSES, exact, small_houses, states_by_counting

FOURS = [(0, (1, 1, 1, 1)), (2, (1, 2, 1, 2)), (4, (1, 1, 1, 1)), (5, (2, 1, 1, 3)), (6, (1, 1, 1, 1))]


class TestStates(Case):

    def test_by_hand(self):
        house, state = (4, (1, 2)), (1, 0, 2, 1)
        self.same(rooms_within(house), (1, 3))
        self.same(sizes_of(house, state), (1, 3))
        self.same([things_on(house, state, floor) for floor in range(3)], [(1,), (0, 3), (2,)])
        self.same([things_within(house, state, floor) for floor in range(2)], [(1,), (0, 1, 3)])
        self.same([filled_up(house, state, floor) for floor in range(2)], [True, True])
        self.same(empty_state(house), (2, 2, 2, 2))
        house, state = (6, (2, 1, 3)), (3, 0, 2, 1, 3, 2)
        self.same(rooms_within(house), (2, 3, 6))
        self.same(sizes_of(house, state), (1, 2, 4))
        self.same([things_on(house, state, floor) for floor in range(4)], [(1,), (3,), (2, 5), (0, 4)])
        self.same([things_within(house, state, floor) for floor in range(3)], [(1,), (1, 3), (1, 2, 3, 5)])
        self.same([filled_up(house, state, floor) for floor in range(3)], [False, False, False])

    def test_filled_up_is_of_all_rooms_within(self):
        house = (4, (2, 1))
        # The second floor is full in the first of these, but not all that is within it.
        self.same([filled_up(house, (0, 1, 2, 2), floor) for floor in (0, 1)], [False, False])
        self.same([filled_up(house, (0, 0, 2, 2), floor) for floor in (0, 1)], [True, False])
        self.same([filled_up(house, (0, 0, 1, 2), floor) for floor in (0, 1)], [True, True])
        self.same([filled_up(house, (1, 2, 2, 2), floor) for floor in (0, 1)], [False, False])

    def test_more_rooms_than_things(self):
        house = (2, (3, 4))
        self.same(rooms_within(house), (3, 7))
        for state in states_by_counting(house):
            self.same([filled_up(house, state, floor) for floor in (0, 1)], [False, False])
        self.same(sizes_of(house, (0, 0)), (2, 2))
        self.same(sizes_of(house, (1, 1)), (0, 2))
        self.same(sizes_of(house, (2, 2)), (0, 0))
        self.same(things_on(house, (2, 2), 2), (0, 1))
        self.same(things_on(house, (0, 0), 2), ())

    def test_no_things(self):
        for house in [(0, (1,)), (0, (2, 3)), (0, (1, 1, 1)), (0, (3, 1, 2, 1))]:
            floors = len(house[1])
            self.same(sizes_of(house, ()), (0,) * floors)
            self.same(empty_state(house), ())
            self.same([things_on(house, (), floor) for floor in range(floors + 1)], [()] * (floors + 1))
            self.same([things_within(house, (), floor) for floor in range(floors)], [()] * floors)
            self.same([filled_up(house, (), floor) for floor in range(floors)], [False] * floors)

    def test_one_to_four_floors(self):
        for house in HOUSES + FOURS + [(16, (3, 3, 3, 3)), (16, (12,)), (9, (4, 1, 2, 5))]:
            many, rooms = house
            self.same(rooms_within(house), tuple(itertools.accumulate(rooms)))
            self.same(empty_state(house), tuple(len(rooms) for _ in range(many)))

    def test_all_states_of_some_houses(self):
        for house in HOUSES + FOURS:
            many, rooms = house
            for state in states_by_counting(house):
                sizes = tuple(sum(1 for at in state if at in range(floor + 1)) for floor in range(len(rooms)))
                self.same(sizes_of(house, state), sizes, house, state)
                for floor in range(len(rooms) + 1):
                    on = tuple(x for x in range(many) if state[x] == floor)
                    self.same(things_on(house, state, floor), on, house, state, floor)
                for floor in range(len(rooms)):
                    within = tuple(x for x in range(many) if state[x] in range(floor + 1))
                    self.same(things_within(house, state, floor), within, house, state, floor)
                    full = sizes[floor] == sum(rooms[:floor + 1])
                    self.same(filled_up(house, state, floor), full, house, state, floor)


class TestAllStates(Case):

    def test_by_hand(self):
        self.same(all_states((2, (1, 1)), (1, 1)), [(0, 2), (2, 0)])
        self.same(all_states((2, (1, 1)), (0, 2)), [])
        self.same(all_states((2, (2, 1)), (1, 2)), [(0, 1), (1, 0)])
        self.same(all_states((3, (2, 1)), (2, 3)), [(0, 0, 1), (0, 1, 0), (1, 0, 0)])
        self.same(all_states((3, (2, 1)), (1, 2))[:2], [(0, 1, 2), (0, 2, 1)])
        self.same(all_states((3, (2, 1)), (0, 0)), [(2, 2, 2)])
        self.same(all_states((0, (2, 1)), (0, 0)), [()])
        self.same(all_states((1, (1,)), (1,)), [(0,)])
        self.same(all_states((1, (1,)), (0,)), [(1,)])

    def test_all_sizes(self):
        for house in small_houses(4, 2, 3) + [(5, (2, 2)), (3, (1, 1, 1, 1)), (2, (4,))]:
            rows = {}
            for state in states_by_counting(house):
                sizes = tuple(sum(1 for at in state if at <= floor) for floor in range(len(house[1])))
                rows.setdefault(sizes, []).append(state)
            for sizes in itertools.product(range(-1, house[0] + 2), repeat=len(house[1])):
                self.same(all_states(house, sizes), rows.get(sizes, []), house, sizes)

    def test_sizes_that_no_state_has(self):
        for sizes in [(2, 1), (-1, 0), (0, -1), (-1, -1), (3, 3), (1, 4), (0, 3), (0, 5), (10 ** 39, 10 ** 39),
                      (-10 ** 39, 0), (0, 10 ** 39), (0, -10 ** 39), (2, 10 ** 39), (-2, -1), (5, 5)]:
            self.same(all_states((4, (2, 2)), sizes), [], sizes)
        self.same(all_states((0, (1,)), (1,)), [])
        self.same(all_states((0, (1, 1)), (0, 1)), [])
        self.same(all_states((0, (1, 1)), (-1, 0)), [])
        # More rooms than things: the sizes may not go beyond the things.
        self.same(all_states((2, (5, 5)), (1, 3)), [])
        self.same(all_states((2, (5, 5)), (3, 3)), [])
        self.same(all_states((2, (5, 5)), (2, 2)), [(0, 0)])
        self.same(all_states((16, (3, 3, 3, 3)), (4, 6, 9, 12)), [])
        self.same(all_states((16, (3, 3, 3, 3)), (3, 6, 9, 13)), [])

    def test_many_states(self):
        for house, sizes in [((16, (3, 3, 3, 3)), (3, 3, 3, 3)), ((15, (4,)), (4,)), ((8, (2, 2)), (2, 4)),
                             ((14, (10,)), (9,)), ((16, (12,)), (12,)), ((7, (3, 2, 1)), (3, 5, 6))]:
            states = all_states(house, sizes)
            counts = [size - less for size, less in zip(sizes + (house[0],), (0,) + sizes)]
            many = math.factorial(house[0])
            for count in counts:
                many //= math.factorial(count)
            self.assertEqual(len(states), many)
            self.assertEqual(len(set(states)), many)
            self.assertEqual(states, sorted(states))
            self.same(states[0], tuple(at for at, count in enumerate(counts) for _ in range(count)))
            for state in states:
                self.assertEqual([state.count(at) for at in range(len(counts))], counts)

    def test_just_three_thousand(self):
        # No house within the bounds has just so many states of any sizes: 3,000 things and one room have.
        states = all_states((3000, (1,)), (1,))
        self.assertEqual(states, [(1,) * place + (0,) + (1,) * (2999 - place) for place in range(3000)])
        self.fails(TooMany, {"most": 3000}, all_states, (3001, (1,)), (1,))

    def test_too_many(self):
        for house, sizes in [((15, (5,)), (5,)), ((14, (7,)), (7,)), ((16, (3, 3, 3, 3)), (3, 6, 9, 12)),
                             ((16, (3, 3, 3, 3)), (1, 2, 3, 4)), ((16, (12,)), (8,)), ((9, (3, 3, 3)), (2, 4, 6)),
                             ((20, (5, 5, 5, 5)), (5, 10, 15, 20))]:
            self.fails(TooMany, {"most": 3000}, all_states, house, sizes)
            self.fails(TooMany, {"most": 3000}, all_states, house, sizes)

    def test_near_three_thousand(self):
        # The nearest numbers of states of houses within the bounds: 2,970, and 3,003 and 3,024.
        for house, sizes in [((12, (2, 2)), (2, 4)), ((12, (2, 8)), (2, 10)), ((12, (8, 2)), (8, 10))]:
            states = all_states(house, sizes)
            self.assertEqual(len(set(states)), 2970)
            self.assertEqual(states, sorted(states))
        for house, sizes in [((14, (6,)), (6,)), ((14, (8,)), (8,)), ((15, (1, 5)), (0, 5)), ((15, (10,)), (10,)),
                             ((9, (1, 1, 1, 1)), (1, 2, 3, 4)), ((9, (1, 5, 1, 1)), (1, 6, 7, 8))]:
            self.fails(TooMany, {"most": 3000}, all_states, house, sizes)

    def test_asked_again(self):
        for house, sizes in [((4, (1, 1)), (1, 2)), ((0, (1,)), (0,)), ((2, (1, 1)), (0, 2)), ((5, (2, 2)), (2, 3))]:
            ahead = exact((house, sizes))
            self.twice(all_states, house, sizes)
            self.assertEqual(exact((house, sizes)), ahead)
        one, other = all_states((2, (1, 1)), (0, 2)), all_states((2, (1, 1)), (0, 2))
        self.assertIsNot(one, other)


if __name__ == "__main__":
    unittest.main()
