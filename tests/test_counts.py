"""Point [30]: numbers of states."""

import itertools
import random
import unittest

from floorkeepers.counts import floor_counts, index_of, lot_counts, state_at, states_with
from floorkeepers.errors import NoIndex, NotFit, TooMany
from floorkeepers.fitting import back_state, front_state, states_of
from floorkeepers.leading import first_knowledge
from tests.helper import (BIG, Case, big_starts, counted_states, counted_ways, exact, fits_like, fitting_some,
                          known_behind_logs, nested_like, odd_values, random_knowledges, sizes_like, small_knowledges,
                          some_state, states_by_counting)

HOUSE, KNOWN = (4, (1, 1)), ((2, 1, 0, 3), ((0, 1, 1, 1, 1), (0, 1, 1, 2, 2)))
LARGE = (16, (3, 3, 3, 3))


def lots_of(dice, house):
    """No things, all of them, and some lots."""
    things = range(house[0])
    return [(), tuple(things)] + [tuple(x for x in things if dice.randrange(2)) for _ in range(2)]


class TestStatesWith(Case):

    def test_by_hand(self):
        self.same([states_with(HOUSE, KNOWN, wanted) for wanted in ({}, {0: 1, 3: 2}, {0: 1, 1: 1}, {2: 0}, {2: 1},
                                                                    {3: 0}, {0: 1, 1: 2, 2: 0, 3: 2})],
                  [2, 1, 0, 2, 0, 0, 1])
        self.same(states_with(LARGE, first_knowledge(LARGE, None), {}), 672672000)
        self.same([states_with((0, (1,)), ((), ((0,),)), {}), states_with((0, (1, 2)), ((), ((0,), (0,))), {})], [1, 1])

    def test_wanted_floors_that_no_state_has(self):
        house, known = (3, (1, 1)), ((0, 1, 2), ((0, 0, 0, 0), (0, 0, 0, 0)))
        self.same([states_with(house, known, wanted) for wanted in ({0: 0}, {0: 1}, {0: 2}, {0: 2, 1: 0})], [0, 0, 1, 0])
        # More things wanted on a floor than it has rooms.
        self.same(states_with((3, (2,)), ((0, 1, 2), ((0, 0, 1, 2),)), {0: 0, 1: 0, 2: 0}), 0)
        self.same(states_with((3, (2,)), ((0, 1, 2), ((0, 0, 1, 2),)), {1: 1, 2: 1}), 0)

    def test_small_houses(self):
        dice = random.Random(30)
        for house, known, states in small_knowledges():
            self.same(states_with(house, known, {}), len(states), house, known)
            for _ in range(4):
                wanted = {x: dice.randrange(len(house[1]) + 1) for x in range(house[0]) if dice.randrange(2)}
                ahead = exact(wanted)
                want = sum(1 for state in states if all(state[x] == wanted[x] for x in wanted))
                self.same(states_with(house, known, wanted), want, house, known, wanted)
                self.assertEqual(exact(wanted), ahead)

    def test_all_wanted(self):
        for house, known, states in small_knowledges()[::9]:
            for state in states_by_counting(house):
                wanted = dict(reversed(list(enumerate(state))))
                self.same(states_with(house, known, wanted), int(state in states), house, known, state)

    def test_large_houses(self):
        dice = random.Random(31)
        for house, known in random_knowledges(dice, 4) + known_behind_logs(dice, 2):
            many = states_with(house, known, {})
            self.same(many, counted_states(known), house, known)
            for state in fitting_some(dice, known, 3):
                self.same(states_with(house, known, dict(enumerate(state))), 1, house, known, state)
                wanted = {x: state[x] for x in dice.sample(range(house[0]), 4)}
                x = dice.choice([x for x in range(house[0]) if x not in wanted])
                rows = [states_with(house, known, {**wanted, x: floor}) for floor in range(len(house[1]) + 1)]
                self.same(sum(rows), states_with(house, known, wanted), house, known, wanted)
                self.assertTrue(rows[state[x]] > 0 and all(row <= many for row in rows))


class TestFloorCounts(Case):

    def test_by_hand(self):
        self.same([floor_counts(HOUSE, KNOWN, x) for x in range(4)], [(0, 1, 1), (0, 1, 1), (2, 0, 0), (0, 0, 2)])
        self.same(floor_counts(LARGE, first_knowledge(LARGE, None), 9), (126126000,) * 4 + (168168000,))

    def test_small_houses(self):
        for house, known, states in small_knowledges():
            for x in range(house[0]):
                want = tuple(sum(1 for state in states if state[x] == floor) for floor in range(len(house[1]) + 1))
                self.same(floor_counts(house, known, x), want, house, known, x)

    def test_large_houses(self):
        dice = random.Random(32)
        for house, known in random_knowledges(dice, 3) + known_behind_logs(dice, 1):
            rows = [floor_counts(house, known, x) for x in range(house[0])]
            many, ends = counted_states(known), [0] + sizes_like(known) + [house[0]]
            self.assertTrue(all(sum(row) == many for row in rows))
            for floor in range(len(house[1]) + 1):
                self.assertEqual(sum(row[floor] for row in rows), many * (ends[floor + 1] - ends[floor]))
            self.assertEqual({(x, floor) for x, row in enumerate(rows) for floor, some in enumerate(row) if some},
                             counted_ways(house, known))


class TestLotCounts(Case):

    def test_by_hand(self):
        self.same([lot_counts(HOUSE, KNOWN, (0, 1), 1), lot_counts(HOUSE, KNOWN, (), 0), lot_counts(HOUSE, KNOWN, (2,), 0),
                   lot_counts(HOUSE, KNOWN, (0, 1, 2, 3), 1), lot_counts(HOUSE, KNOWN, (0, 1, 2, 3), 0),
                   lot_counts(HOUSE, KNOWN, (0, 3), 1)],
                  [(0, 2, 0), (2,), (0, 2), (0, 0, 2, 0, 0), (0, 2, 0, 0, 0), (1, 1, 0)])
        self.same(lot_counts((0, (1,)), ((), ((0,),)), (), 0), (1,))

    def test_small_houses(self):
        dice = random.Random(33)
        for house, known, states in small_knowledges():
            for lot, floor in itertools.product(lots_of(dice, house), range(len(house[1]))):
                rows = [sum(1 for x in lot if state[x] <= floor) for state in states]
                self.same(lot_counts(house, known, lot, floor), tuple(rows.count(k) for k in range(len(lot) + 1)),
                          house, known, lot, floor)

    def test_large_houses(self):
        dice = random.Random(34)
        for house, known in random_knowledges(dice, 2) + known_behind_logs(dice, 1):
            many, sizes = counted_states(known), sizes_like(known)
            for floor in range(len(house[1])):
                for lot in lots_of(dice, house):
                    row = lot_counts(house, known, lot, floor)
                    self.assertEqual([len(row), sum(row)], [len(lot) + 1, many])
                    # The other things have the others of the floor.
                    rest = tuple(x for x in range(house[0]) if x not in lot)
                    other = lot_counts(house, known, rest, floor)
                    want = [other[sizes[floor] - k] if 0 <= sizes[floor] - k < len(other) else 0 for k in range(len(row))]
                    self.assertEqual(list(row), want)
                x = dice.randrange(house[0])
                counts = floor_counts(house, known, x)
                self.same(lot_counts(house, known, (x,), floor), (sum(counts[floor + 1:]), sum(counts[:floor + 1])))


class TestIndexes(Case):

    def test_by_hand(self):
        self.same([state_at(HOUSE, KNOWN, index) for index in (0, 1)], [(1, 2, 0, 2), (2, 1, 0, 2)])
        self.same([index_of(HOUSE, KNOWN, state) for state in ((1, 2, 0, 2), (2, 1, 0, 2))], [0, 1])
        self.same([state_at((0, (1,)), ((), ((0,),)), 0), index_of((0, (1,)), ((), ((0,),)), ())], [(), 0])

    def test_all_in_small_houses(self):
        for house, known, states in small_knowledges():
            some = range(len(states)) if len(states) < 12 else [*range(0, len(states), len(states) // 9)]
            for index in [*some, len(states) - 1]:
                self.same(state_at(house, known, index), states[index], house, known, index)
                self.same(index_of(house, known, states[index]), index, house, known, index)
            self.fails(NoIndex, {"index": len(states)}, state_at, house, known, len(states))
            self.fails(NoIndex, {"index": -1}, state_at, house, known, -1)

    def test_states_that_do_not_fit(self):
        for house, known, states in small_knowledges()[::5]:
            for state in states_by_counting(house):
                if state not in states:
                    self.fails(NotFit, {}, index_of, house, known, state)

    def test_any_values_for_indexes(self):
        for house, known in [(HOUSE, KNOWN), (LARGE, first_knowledge(LARGE, None)), ((0, (1,)), ((), ((0,),)))]:
            many = counted_states(known)
            for index in odd_values() + [many, many + 1, -many, -1, True, False, str(many - 1), (0,), [0], {0: 0}, None]:
                with self.assertRaises(NoIndex) as caught:
                    state_at(house, known, index)
                self.assertIs(caught.exception.index, index)
                self.fails(NoIndex, {"index": index}, state_at, house, known, index)

    def test_millions(self):
        known = first_knowledge(LARGE, None)
        many = 672672000
        self.fails(TooMany, {"most": 3000}, states_of, LARGE, known)
        self.same(state_at(LARGE, known, 0), (0, 0, 0, 1, 1, 1, 2, 2, 2, 3, 3, 3, 4, 4, 4, 4))
        self.same(state_at(LARGE, known, 1), (0, 0, 0, 1, 1, 1, 2, 2, 2, 3, 3, 4, 3, 4, 4, 4))
        self.same(state_at(LARGE, known, many - 1), (4, 4, 4, 4, 3, 3, 3, 2, 2, 2, 1, 1, 1, 0, 0, 0))
        self.same(index_of(LARGE, known, (4, 4, 4, 4, 3, 3, 3, 2, 2, 2, 1, 1, 1, 0, 0, 0)), many - 1)
        # A first thing behind floor 0 alone, so behind all with it there.
        self.same(index_of(LARGE, known, (1, 0, 0, 0, 1, 1, 2, 2, 2, 3, 3, 3, 4, 4, 4, 4)), 126126000)
        self.fails(NoIndex, {"index": many}, state_at, LARGE, known, many)

    def test_large_houses(self):
        dice = random.Random(35)
        for house, known in random_knowledges(dice, 3) + known_behind_logs(dice, 1):
            many = counted_states(known)
            for index in [0, many - 1, dice.randrange(many), dice.randrange(many)]:
                state = state_at(house, known, index)
                self.assertTrue(fits_like(known, state))
                self.same(index_of(house, known, state), index, house, known)
                if index + 1 < many:
                    self.assertLess(state, state_at(house, known, index + 1))
            for state in fitting_some(dice, known, 3) + [front_state(house, known)]:
                self.same(state_at(house, known, index_of(house, known, state)), state, house, known)
            for state in [some_state(dice, house) for _ in range(5)]:
                if not fits_like(known, state):
                    self.fails(NotFit, {}, index_of, house, known, state)
            if many <= 3000:
                states = states_of(house, known)
                for index in dice.sample(range(many), min(many, 5)):
                    self.same([state_at(house, known, index), index_of(house, known, states[index])],
                              [states[index], index], house, known)

    def test_at_first(self):
        dice = random.Random(36)
        for house in BIG:
            for start, _ in big_starts(dice, house):
                known = first_knowledge(house, start)
                if start is not None:
                    self.same([states_with(house, known, {}), index_of(house, known, start), state_at(house, known, 0)],
                              [1, 0, start], house)
                else:
                    self.assertEqual(states_with(house, known, {}), counted_states(known))
                self.assertTrue(nested_like(known[1]))
                self.same(state_at(house, known, index_of(house, known, back_state(house, known))),
                          back_state(house, known), house, start)


class TestCounts(Case):

    def test_nothing_changes_and_the_same_again(self):
        wanted = {3: 2, 0: 1}
        given = (HOUSE, KNOWN, wanted)
        ahead = exact(given)
        for _ in range(2):
            self.same([states_with(*given), floor_counts(HOUSE, KNOWN, 0), lot_counts(HOUSE, KNOWN, (0, 1), 1),
                       state_at(HOUSE, KNOWN, 1), index_of(HOUSE, KNOWN, (2, 1, 0, 2))],
                      [1, (0, 1, 1), (0, 2, 0), (2, 1, 0, 2), 1])
        self.assertEqual(exact(given), ahead)


if __name__ == "__main__":
    unittest.main()
