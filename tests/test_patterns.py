"""Point [31]: patterns."""

import itertools
import random
import unittest

from floorkeepers.errors import TooMany
from floorkeepers.forms import is_log
from floorkeepers.leading import can_be, first_knowledge, knowledge_behind, led
from floorkeepers.parting import can_happen
from floorkeepers.patterns import as_log, found_behind, greatest_pattern, is_pattern, least_pattern, patterns_of
from tests.helper import (BIG, Case, big_starts, exact, known_behind_logs, number_changes, odd_values, part_changes,
                          patterns_by_keepers, random_knowledges, small_knowledges, some_row)

HOUSE, KNOWN = (4, (1, 1)), ((2, 1, 0, 3), ((0, 1, 1, 1, 1), (0, 1, 1, 2, 2)))
LARGE = (16, (3, 3, 3, 3))


def least_like(found, row, pick):
    """The pattern in which each ask has the least, or the greatest, floor of all patterns that begin so."""
    rows = sorted(found)
    for at in range(len(row)):
        floor = pick(floors[at] for floors in rows)
        rows = [floors for floors in rows if floors[at] == floor]
    return rows[0]


class TestAsLog(Case):

    def test_by_hand(self):
        self.same(as_log((0, 1, 0), (2, 0, 5)), (("ask", 0, 2), ("ask", 1, 0), ("ask", 0, 5)))
        self.same([as_log((), ()), as_log((3,), (-7,))], [(), (("ask", 3, -7),)])


class TestFoundBehind(Case):

    def test_by_hand(self):
        self.same([found_behind((2, 1), 1), found_behind((2, 1), 0), found_behind((2, 1), 2), found_behind((), 0),
                   found_behind((0, 3, -4, 3), -1), found_behind((0, 3, -4, 3), -5), found_behind((0, 3, -4, 3), 10 ** 30)],
                  [1, 2, 0, 0, 3, 4, 0])


class TestPatternsOf(Case):

    def check(self, house, known, row, found):
        """All that is told of a row, by all patterns of it."""
        ahead = exact((known, row))
        self.same(self.twice(patterns_of, house, known, row), sorted(found), house, known, row)
        self.same(least_pattern(house, known, row), least_like(found, row, min), house, known, row)
        self.same(greatest_pattern(house, known, row), least_like(found, row, max), house, known, row)
        self.assertEqual(exact((known, row)), ahead)

    def test_by_hand(self):
        self.check(HOUSE, KNOWN, (0, 1), [(1, 2), (2, 1), (2, 2)])
        self.check(HOUSE, KNOWN, (0, 1, 1), [(1, 2, 0), (2, 1, 0), (2, 2, 0)])
        self.check(HOUSE, KNOWN, (2, 3), [(0, 2)])
        self.same([patterns_of(HOUSE, KNOWN, ()), least_pattern(HOUSE, KNOWN, ()), greatest_pattern(HOUSE, KNOWN, ())],
                  [[()], (), ()])
        self.same(patterns_of((0, (1,)), ((), ((0,),)), ()), [()])

    def test_small_houses(self):
        dice = random.Random(31)
        for house, known, states in small_knowledges()[::2]:
            row = some_row(dice, house, dice.choice([1, 2, 3, 4]))
            self.check(house, known, row, patterns_by_keepers(house, states, row))

    def test_longer_rows(self):
        dice = random.Random(32)
        for house, known, states in dice.sample(small_knowledges(), 60):
            row = some_row(dice, house, 9)
            found = patterns_by_keepers(house, states, row[:7])
            if len(found) < 60:
                found = patterns_by_keepers(house, states, row)
                if len(found) <= 1000:
                    self.check(house, known, row, found)

    def test_floors_on_which_nothing_stands(self):
        house, known = (3, (1, 1)), ((0, 1, 2), ((0, 0, 0, 0), (0, 0, 0, 1)))
        self.check(house, known, (0,), [(1,), (2,)])
        house, known = (3, (1, 1)), ((0, 1, 2), ((0, 0, 0, 1), (0, 0, 0, 1)))
        self.check(house, known, (0,), [(0,), (2,)])
        self.check(house, known, (0, 1), [(0, 2), (2, 1), (2, 2)])

    def test_just_1000_and_one_more(self):
        for house, known, row in [((5, (1, 1, 1)), None, (0, 1, 4, 2, 0, 3, 1, 4)),
                                  ((8, (2, 2, 1)), (3,) * 8, (7, 0, 4, 6, 7, 2, 1, 5, 4, 0, 6, 2, 0))]:
            known = first_knowledge(house, known)
            patterns = patterns_of(house, known, row)
            self.assertEqual([len(patterns), len(set(patterns)), sorted(patterns)], [1000, 1000, patterns])
            self.assertTrue(all(is_pattern(house, known, row, floors) for floors in patterns))
            # The same things once more are surely found where they are.
            self.assertEqual(len(patterns_of(house, known, row + row[-1:] * 40)), 1000)
        for house, known, row in [
                ((5, (2, 2)), ((4, 2, 3, 1, 0), ((0, 0, 1, 1, 1, 2), (0, 0, 1, 2, 3, 4))),
                 (1, 3, 1, 1, 1, 0, 1, 4, 2, 2, 4)),
                ((7, (3, 3)), ((3, 5, 4, 1, 6, 2, 0), ((0, 1, 1, 1, 1, 1, 1, 1), (0, 1, 1, 1, 1, 2, 3, 4))),
                 (6, 1, 6, 2, 6, 4, 5, 3, 3, 6, 6, 4)),
                ((10, (2, 1, 2)), ((3, 1, 6, 9, 4, 2, 7, 5, 0, 8), ((0, 0, 1) + (2,) * 8, (0, 0, 1) + (2,) * 8,
                                                                    (0, 0, 1, 2, 2, 2, 2, 2, 2, 3, 4))),
                 (6, 0, 7, 3, 1, 6, 6, 1))]:
            self.assertEqual(self.many(house, known, row), 1001)
            self.fails(TooMany, {"most": 1000}, patterns_of, house, known, row)
            short = row[:-1]
            if self.many(house, known, short) <= 1000:
                self.assertEqual(len(patterns_of(house, known, short)), self.many(house, known, short))

    def many(self, house, known, row):
        """How many patterns there are, by trying each floor for each ask, without going through them one by one."""
        ways = {known: 1}
        for x in row:
            longer = {}
            for now, floor in itertools.product(ways, range(len(house[1]) + 1)):
                if can_happen(house, now, as_log((x,), (floor,))):
                    behind = led(house, now, ("ask", x, floor))
                    longer[behind] = longer.get(behind, 0) + ways[now]
            ways = longer
        return sum(ways.values())

    def test_too_many(self):
        dice = random.Random(33)
        for house in [LARGE, (16, (1, 1, 1, 1)), (16, (1, 2, 4, 5)), (14, (2, 6))]:
            for start, _ in big_starts(dice, house) + [(None, None)]:
                row = some_row(dice, house, 56) + (0, 1, 2, 3)
                self.fails(TooMany, {"most": 1000}, patterns_of, house, first_knowledge(house, start), row)

    def test_long_rows_of_few_patterns(self):
        # Three things have room on the first floor.
        empty = (4,) * 16
        row = (3, 5, 9) + (5, 3, 9) * 19
        self.same(patterns_of(LARGE, first_knowledge(LARGE, empty), row), [(4, 4, 4) + (0,) * 57])
        self.same(patterns_of(LARGE, first_knowledge(LARGE, None), (7,) * 60), [(at,) + (0,) * 59 for at in range(5)])


class TestIsPattern(Case):

    def test_by_hand(self):
        for thing, want in [((1, 1), False), ((1, 2), True), ((2, 2), True), ((2, 1), True), ((2, 0), False), ((), False),
                            ((2,), False), ((2, 2, 0), False), ([2, 2], False), ((2, True), False), ((True, 2), False),
                            ((2, 3), False), ((-1, 2), False), ((3, 2), False), (("2", 2), False), (None, False)]:
            self.same(is_pattern(HOUSE, KNOWN, (0, 1), thing), want, thing)
        self.same([is_pattern(HOUSE, KNOWN, (), thing) for thing in ((), None, [], (0,), {})],
                  [True, False, False, False, False])
        # A truth is no floor, though the asked thing is surely found on floor 0.
        self.same([is_pattern(HOUSE, KNOWN, (2,), thing) for thing in ((0,), (False,))], [True, False])

    def test_small_houses(self):
        dice = random.Random(34)
        told = [0, 0]
        for house, known, states in small_knowledges()[::7]:
            row = some_row(dice, house, 3)
            found = patterns_by_keepers(house, states, row)
            floors = dice.choice(sorted(found))
            for thing in [floors] + part_changes(floors) + number_changes(floors, len(house[1]) + 1):
                want = exact(thing) in [exact(some) for some in found]
                told[want] += 1
                self.same(is_pattern(house, known, row, thing), want, house, known, row, thing)
        self.assertGreater(min(told), 200)

    def test_any_values(self):
        for thing in odd_values():
            for value in [thing, (thing,), (2, thing), [thing]]:
                self.same(is_pattern(HOUSE, KNOWN, (0, 1), value), False, value)


class TestLarge(Case):

    def test_patterns_of_large_houses(self):
        dice = random.Random(35)
        for house, known in random_knowledges(dice, 2) + known_behind_logs(dice, 1):
            row = some_row(dice, house, 60)
            least, greatest = least_pattern(house, known, row), greatest_pattern(house, known, row)
            for floors, step in [(least, -1), (greatest, 1)]:
                self.assertTrue(is_log(house, as_log(row, floors)))
                self.same(is_pattern(house, known, row, floors), True, house, known, row)
                for at in range(0, 60, 11):
                    for more in range(1, 5):
                        other = floors[:at] + (floors[at] + step * more,)
                        self.same(is_pattern(house, known, row[:at + 1], other), False, house, known, row, other)
            few = patterns_of(house, known, row[:3])
            self.assertEqual([few[0][0], few[-1][0]], [least[0], greatest[0]])
            self.assertIn(least[:3], few)
            self.assertIn(greatest[:3], few)

    def test_behind_a_start(self):
        dice = random.Random(36)
        for house in BIG:
            for start, _ in big_starts(dice, house):
                row = some_row(dice, house, 60)
                known = first_knowledge(house, start)
                for floors in (least_pattern(house, known, row), greatest_pattern(house, known, row)):
                    self.same(can_be(house, start, as_log(row, floors)), True, house, start, row)
                    half = knowledge_behind(house, start, as_log(row[:30], floors[:30]))
                    self.same(is_pattern(house, half, row[30:], floors[30:]), True, house, start, row)


if __name__ == "__main__":
    unittest.main()
