"""Point [32]: best and worst, with the guarantee [9]."""

import random
import unittest

from floorkeepers.bestworst import behind_bounds, best_run, pattern_with, turn_patterns, worst_run
from floorkeepers.errors import NotNested
from floorkeepers.leading import first_knowledge, led
from floorkeepers.patterns import as_log, greatest_pattern, is_pattern, least_pattern
from floorkeepers.words import is_nested
from tests.helper import (BIG, Case, SMALL, asks_by_keepers, big_starts, exact, first_states, known_behind_logs,
                          nested_like, patterns_by_keepers, small_knowledges, some_row, starts_of)

HOUSE, KNOWN = (4, (1, 1)), ((2, 1, 0, 3), ((0, 1, 1, 1, 1), (0, 1, 1, 2, 2)))
EMPTY = (2, 2, 2, 2)


def behind(floors, floor):
    return sum(1 for found in floors if found > floor)


def turned(house, states, row, turn):
    """The pattern with so many first asks on the greatest floors, all others on the least, by all states."""
    floors = ()
    for at, x in enumerate(row):
        found = patterns_by_keepers(house, states, (x,))
        pick = max(found) if at < turn else min(found)
        floors, states = floors + pick, found[pick]
    return floors


def misses(house, state, row):
    """All patterns that keepers make of a row of asks from a state, by each of their moves."""
    found = {((), state)}
    for x in row:
        found = {(floors + (now[x],), next_one) for floors, now in found
                 for _, next_one in asks_by_keepers(house, now, x)}
    return {floors for floors, _ in found}


def nested_knowledges():
    return [some for some in small_knowledges() if nested_like(some[1][1])]


class TestPatterns(Case):

    def check(self, house, known, states, row):
        """All that is told of a row, by all patterns of it."""
        ahead = exact((known, row))
        found = sorted(patterns_by_keepers(house, states, row))
        bounds = []
        for floor in range(len(house[1])):
            numbers = [behind(floors, floor) for floors in found]
            bounds.append((min(numbers), max(numbers)))
            for number in range(-2, len(row) + 3):
                floors = pattern_with(house, known, row, floor, number)
                if bounds[-1][0] <= number <= bounds[-1][1]:
                    self.assertIn(exact(floors), [exact(some) for some in found])
                    self.assertEqual(behind(floors, floor), number)
                else:
                    self.same(floors, None, house, known, row, floor, number)
        self.same(behind_bounds(house, known, row), tuple(bounds), house, known, row)
        self.same(self.twice(turn_patterns, house, known, row),
                  [turned(house, states, row, turn) for turn in range(len(row) + 1)], house, known, row)
        self.assertEqual(exact((known, row)), ahead)

    def test_by_hand(self):
        self.same([behind_bounds(HOUSE, KNOWN, (0, 1)), turn_patterns(HOUSE, KNOWN, (0, 1)),
                   pattern_with(HOUSE, KNOWN, (0, 1), 1, 3), pattern_with(HOUSE, KNOWN, (0, 1), 1, 2),
                   pattern_with(HOUSE, KNOWN, (0, 1), 1, 0)],
                  [((2, 2), (1, 2)), [(1, 2), (2, 1), (2, 2)], None, (2, 2), None])
        self.assertIn(pattern_with(HOUSE, KNOWN, (0, 1), 1, 1), [(1, 2), (2, 1)])
        self.check(HOUSE, KNOWN, [(1, 2, 0, 2), (2, 1, 0, 2)], (0, 1))

    def test_rows_without_asks(self):
        for house, known in [(HOUSE, KNOWN), ((0, (1,)), ((), ((0,),)))]:
            floors = len(house[1])
            self.same([behind_bounds(house, known, ()), turn_patterns(house, known, ())], [((0, 0),) * floors, [()]])
            for floor in range(floors):
                self.same([pattern_with(house, known, (), floor, number) for number in (-1, 0, 1, 10 ** 39)],
                          [None, (), None, None])

    def test_numbers_beyond_both_bounds(self):
        for number in (-1, -2, -10 ** 39, 3, 4, 10 ** 39):
            for floor in range(2):
                self.same(pattern_with(HOUSE, KNOWN, (0, 1), floor, number), None, floor, number)
        # Both are found behind floor 0 by any keepers.
        self.same([pattern_with(HOUSE, KNOWN, (0, 1), 0, number) is None for number in (0, 1, 2)], [True, True, False])

    def test_small_houses(self):
        dice = random.Random(32)
        for house, known, states in nested_knowledges()[::2]:
            self.check(house, known, states, some_row(dice, house, dice.choice([1, 2, 3, 3, 4])))

    def test_longer_rows(self):
        dice = random.Random(33)
        for house, known, states in dice.sample([some for some in nested_knowledges() if len(some[0][1]) < 4], 25):
            self.check(house, known, states, some_row(dice, house, 6))

    def test_not_nested(self):
        told = 0
        for house, known, _ in small_knowledges():
            if nested_like(known[1]):
                continue
            told += 1
            for row in [(), (0,) * (told % 3)]:
                self.fails(NotNested, {}, behind_bounds, house, known, row)
                self.fails(NotNested, {}, turn_patterns, house, known, row)
                for number in (-1, 0, 10 ** 39):
                    self.fails(NotNested, {}, pattern_with, house, known, row, 0, number)
        self.assertGreater(told, 100)

    def test_stay_nested(self):
        for house, known, _ in nested_knowledges()[::3]:
            for x in range(house[0]):
                for pattern in (least_pattern, greatest_pattern):
                    now = led(house, known, as_log((x,), pattern(house, known, (x,)))[0])
                    self.same(is_nested(now), True, house, known, x)

    def test_large_houses(self):
        dice = random.Random(34)
        for house, known in known_behind_logs(dice, 1):
            if not nested_like(known[1]):
                self.fails(NotNested, {}, behind_bounds, house, known, ())
                continue
            row = some_row(dice, house, 60)
            rows = turn_patterns(house, known, row)
            self.assertEqual([len(rows), rows[0], rows[-1]],
                             [61, least_pattern(house, known, row), greatest_pattern(house, known, row)])
            bounds = behind_bounds(house, known, row)
            for floor in range(len(house[1])):
                numbers = [behind(floors, floor) for floors in rows]
                self.same(bounds[floor], (numbers[0], numbers[-1]), house, known, row)
                self.assertTrue(all(0 <= numbers[at + 1] - numbers[at] <= 1 for at in range(60)))
            for floors in rows[::15]:
                self.same(is_pattern(house, known, row, floors), True, house, known, row)
            floor = dice.randrange(len(house[1]))
            least, greatest = bounds[floor]
            for number in {least, greatest, (least + greatest) // 2}:
                floors = pattern_with(house, known, row, floor, number)
                self.assertEqual([behind(floors, floor), is_pattern(house, known, row, floors)], [number, True])
            for number in (least - 1, greatest + 1):
                self.same(pattern_with(house, known, row, floor, number), None, house, known, row)


class TestRuns(Case):

    def check(self, house, start, row, told, floors):
        """A showing of the row found on these floors; how the run goes is told by the keepers' moves."""
        self.assertIs(told.__class__, tuple)
        state, run = told
        self.assertIn(state, first_states(house, start) if house[0] < 9 else [state])
        if start is not None:
            self.same(state, start)
        self.assertEqual(len(run), len(row))
        found = []
        for move, x in zip(run, row):
            ways = dict(asks_by_keepers(house, state, x))
            self.same(move[:2], ("ask", x))
            found.append(state[x])
            state = ways[move[2]]
        self.same(tuple(found), floors, house, start, row)

    def test_by_hand(self):
        self.same(best_run(HOUSE, EMPTY, (0, 1)), (EMPTY, (("ask", 0, ()), ("ask", 1, (0,)))))
        self.same([best_run(HOUSE, EMPTY, ()), worst_run(HOUSE, EMPTY, ())], [(EMPTY, ())] * 2)
        self.same(best_run((1, (1,)), None, ()), ((0,), ()))
        # The best keepers of two floors keep what is asked for next.
        self.check(HOUSE, EMPTY, (0, 1, 2, 1, 0), best_run(HOUSE, EMPTY, (0, 1, 2, 1, 0)), (2, 2, 2, 1, 2))
        self.check(HOUSE, EMPTY, (0, 1, 2, 1, 0), worst_run(HOUSE, EMPTY, (0, 1, 2, 1, 0)), (2, 2, 2, 2, 2))
        self.same(best_run((0, (1,)), (), ()), ((), ()))

    def test_as_few_and_as_many_as_by_any_keepers(self):
        dice = random.Random(35)
        for house in SMALL:
            for start in [dice.choice(starts_of(house)), starts_of(house)[-1], starts_of(house)[0]]:
                row = some_row(dice, house, dice.choice([2, 4, 5]))
                found = {floors for state in first_states(house, start) for floors in misses(house, state, row)}
                first = first_knowledge(house, start)
                for call, pattern, pick in [(best_run, least_pattern, min), (worst_run, greatest_pattern, max)]:
                    floors = pattern(house, first, row)
                    self.check(house, start, row, call(house, start, row), floors)
                    for floor in range(len(house[1])):
                        self.assertEqual(behind(floors, floor), pick(behind(some, floor) for some in found))
                    self.same(call(house, start, row), call(house, start, row))

    def test_each_number_comes_by_some_keepers(self):
        dice = random.Random(36)
        for house in SMALL:
            start = dice.choice(starts_of(house))
            row = some_row(dice, house, 4)
            found = {floors for state in first_states(house, start) for floors in misses(house, state, row)}
            for floor, (least, greatest) in enumerate(behind_bounds(house, first_knowledge(house, start), row)):
                self.assertEqual({behind(floors, floor) for floors in found}, set(range(least, greatest + 1)))

    def test_large_houses(self):
        dice = random.Random(37)
        for house in BIG:
            for start, _ in big_starts(dice, house):
                row = some_row(dice, house, 60)
                first = first_knowledge(house, start)
                self.check(house, start, row, best_run(house, start, row), least_pattern(house, first, row))
                self.check(house, start, row, worst_run(house, start, row), greatest_pattern(house, first, row))
                if start is None:
                    state = best_run(house, start, row)[0]
                    self.assertEqual([state.count(floor) for floor in range(len(house[1]))], list(house[1]))


if __name__ == "__main__":
    unittest.main()
