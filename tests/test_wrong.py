"""Point [36]: wrong results."""

import itertools
import random
import unittest

from floorkeepers.errors import TooMany
from floorkeepers.leading import can_be
from floorkeepers.unseen import filling_of, knowledges_for
from floorkeepers.wrong import fewest_wrong, is_mended, wrong_lots
from tests.helper import (BIG, Case, JUST_300, JUST_301, SMALL, all_behind, big_starts, exact, first_states,
                          number_changes, odd_values, part_changes, random_run, some_log, starts_of)

HOUSE, EMPTY = (4, (1, 1)), (2, 2, 2, 2)
BAD = (("ask", 0, 2), ("ask", 1, 2), ("ask", 0, 2))


def logs_like(house, start, log):
    """All logs that can be with the same words and things, by all keepers."""
    found = {(): first_states(house, start)}
    for word, x, _ in log:
        longer = {}
        for ahead, states in found.items():
            for floor in sorted({state[x] for state in states}):
                longer[ahead + ((word, x, floor),)] = all_behind(house, states, (word, x, floor))
        found = longer
    return list(found)


def changed(log, other):
    """The indexes of the entries that differ."""
    return tuple(index for index, entry in enumerate(log) if entry != other[index])


def floors_changed(dice, house, log, many):
    """The log with any floors in some entries."""
    for _ in range(many if log else 0):
        at = dice.randrange(len(log))
        log = log[:at] + (log[at][:2] + (dice.randrange(len(house[1]) + 1),),) + log[at + 1:]
    return log


class TestSmall(Case):

    def check(self, house, start, log):
        """All that is told of a log, by all logs with its words and things; how few entries are wrong."""
        ahead = exact(log)
        good = logs_like(house, start, log)
        lots = {changed(log, other) for other in good}
        least = [lot for lot in lots if not any(set(few) < set(lot) for few in lots)]
        self.same(self.twice(wrong_lots, house, start, log), sorted(least), house, start, log)
        told = fewest_wrong(house, start, log)
        self.same(told[0], min(len(lot) for lot in lots), house, start, log)
        self.assertIn(exact(told[1]), [exact(other) for other in good])
        self.same([told.__class__, len(told), len(changed(log, told[1]))], [tuple, 2, told[0]], house, start, log)
        self.same(fewest_wrong(house, start, log), told)
        self.same(is_mended(house, start, log, *told), True, house, start, log)
        self.assertEqual(exact(log), ahead)
        return told[0]

    def test_by_hand(self):
        self.same([wrong_lots(HOUSE, EMPTY, BAD), fewest_wrong(HOUSE, EMPTY, BAD), wrong_lots(HOUSE, EMPTY, BAD[:2])],
                  [[(2,)], (1, (("ask", 0, 2), ("ask", 1, 2), ("ask", 0, 1))), [()]])
        # All are OUT at first, or none; just asked for, a thing alone is on floor 0.
        self.same(wrong_lots((2, (1, 1)), None, (("ask", 0, 2),)), [(0,)])
        self.same(wrong_lots((2, (1, 1)), (2, 2), (("ask", 0, 1), ("strike", 0, 1))), [(0, 1)])
        self.same(wrong_lots((3, (1, 1)), None, (("ask", 0, 0), ("ask", 1, 0))), [(1,)])
        self.same(wrong_lots((3, (1, 1)), None, (("ask", 0, 2), ("ask", 1, 0), ("ask", 0, 0))), [(1, 2)])
        self.same(fewest_wrong((3, (1, 1)), None, (("ask", 0, 2), ("ask", 1, 0), ("ask", 0, 0)))[0], 2)

    def test_several_lots(self):
        # Both were found on the one room, so one of these is wrong.
        house, log = (3, (1,)), (("strike", 0, 0), ("strike", 1, 0))
        self.same([wrong_lots(house, None, log), fewest_wrong(house, None, log)[0]], [[(0,), (1,)], 1])
        # Of three at least two.
        log = tuple(("strike", x, 0) for x in (0, 1, 2))
        self.same([wrong_lots(house, None, log), fewest_wrong(house, None, log)[0]], [[(0, 1), (0, 2), (1, 2)], 2])
        log = (("strike", 0, 0), ("strike", 1, 1), ("strike", 2, 0), ("strike", 0, 0))
        self.check(house, None, log)

    def test_logs_that_can_be(self):
        dice = random.Random(36)
        for house in SMALL:
            start = dice.choice(starts_of(house))
            log, _ = some_log(dice, house, first_states(house, start), 10)
            self.same([wrong_lots(house, start, log), fewest_wrong(house, start, log)], [[()], (0, log)], house, log)
        self.same([wrong_lots((0, (1,)), (), ()), fewest_wrong((0, (1,)), (), ())], [[()], (0, ())])

    def test_small_houses(self):
        dice = random.Random(37)
        told = {}
        for house in SMALL * 3:
            for start in [dice.choice(starts_of(house)), starts_of(house)[-1]]:
                log, _ = some_log(dice, house, first_states(house, start), dice.choice([2, 3, 5]))
                few = self.check(house, start, floors_changed(dice, house, log, 4))
                told[few] = told.get(few, 0) + 1
        self.assertTrue(all(told.get(few, 0) > 5 for few in range(3)), told)

    def test_longer_logs(self):
        dice = random.Random(38)
        for house in [(2, (1,)), (3, (1,)), (3, (2,)), (2, (1, 1)), (3, (1, 1)), (1, (1, 2)), (4, (1,))]:
            start = dice.choice(starts_of(house))
            log, _ = some_log(dice, house, first_states(house, start), 10)
            self.check(house, start, floors_changed(dice, house, log, 6))


class TestIsMended(Case):

    def test_by_hand(self):
        good = BAD[:2] + (("ask", 0, 1),)
        self.same([is_mended(HOUSE, EMPTY, BAD, 0, BAD), is_mended(HOUSE, EMPTY, BAD[:2], 0, BAD[:2]),
                   is_mended(HOUSE, EMPTY, BAD, 1, good), is_mended(HOUSE, EMPTY, BAD, 0, good),
                   is_mended(HOUSE, EMPTY, BAD, 2, good), is_mended(HOUSE, EMPTY, BAD, -1, good),
                   is_mended(HOUSE, EMPTY, BAD, 1, BAD), is_mended(HOUSE, EMPTY, BAD, 1, good[:2]),
                   is_mended(HOUSE, EMPTY, good, 0, good), is_mended(HOUSE, EMPTY, (), 0, ())],
                  [False, True, True, False, False, False, False, False, True, True])
        # Another word, or another thing.
        self.same([is_mended(HOUSE, EMPTY, BAD, 1, BAD[:2] + (entry,)) for entry in
                   (("strike", 0, 1), ("ask", 2, 2), ("ask", 1, 0), ("ask", 0, True), ("ask", 0, None), ["ask", 0, 1])],
                  [False] * 6)

    def test_small_houses(self):
        dice = random.Random(39)
        told = [0, 0]
        for house in SMALL:
            start = dice.choice(starts_of(house))
            log = floors_changed(dice, house, some_log(dice, house, first_states(house, start), 4)[0], 3)
            good = logs_like(house, start, log)
            things = [tuple(entry[:2] + (floor,) for entry, floor in zip(log, floors))
                      for floors in itertools.product(range(len(house[1]) + 1), repeat=len(log))]
            some = dice.choice(good)
            things = dice.sample(things, min(len(things), 40)) + good[:40]
            for thing in things + part_changes(some) + number_changes(some, 3):
                right = exact(thing) in [exact(other) for other in good]
                for number in range(-1, 5):
                    want = right and len(changed(log, thing)) == number
                    told[want] += 1
                    self.same(is_mended(house, start, log, number, thing), want, house, start, log, number, thing)
        self.assertGreater(min(told), 60)

    def test_any_values(self):
        for thing in odd_values():
            for value in [thing, (thing,) * 3, BAD[:2] + (thing,), BAD[:2] + (("ask", 0, thing),), [BAD]]:
                for number in (0, 1, 3):
                    self.same(is_mended(HOUSE, EMPTY, BAD, number, value), False, value)


class TestTooMany(Case):

    def log(self, told):
        return tuple(entry + (0,) for entry in told)

    def test_more_than_ten_entries(self):
        log = BAD + (("ask", 2, 2), ("strike", 3, 2)) * 4
        self.assertEqual(len(log), 11)
        self.fails(TooMany, {"most": 10}, wrong_lots, HOUSE, EMPTY, log)
        # Also where the log can be, or where there would be too many knowledges, too.
        self.fails(TooMany, {"most": 10}, wrong_lots, HOUSE, EMPTY, (("strike", 0, 2),) * 11)
        self.fails(TooMany, {"most": 10}, wrong_lots, HOUSE, EMPTY, (("strike", 0, 2),) * 60)
        house, told = JUST_301
        self.fails(TooMany, {"most": 10}, wrong_lots, house, None, self.log(told) * 2)
        self.fails(TooMany, {"most": 300}, fewest_wrong, house, None, self.log(told) * 2)
        self.same(fewest_wrong(HOUSE, EMPTY, (("strike", 0, 2),) * 60), (0, (("strike", 0, 2),) * 60))
        # Ten are not too many.
        self.same(wrong_lots(HOUSE, EMPTY, (("strike", 0, 2),) * 9 + (("strike", 0, 0),)), [(9,)])
        self.same(wrong_lots(HOUSE, EMPTY, (("ask", 0, 2),) * 10), [(1, 2, 3, 4, 5, 6, 7, 8, 9)])
        self.same(wrong_lots(HOUSE, EMPTY, (("ask", 0, 1),) * 10), [tuple(range(10))])

    def test_too_many_knowledges(self):
        house, told = JUST_301
        for log in [self.log(told), self.log(told) + (("ask", 0, 4),)]:
            self.fails(TooMany, {"most": 300}, wrong_lots, house, None, log)
            self.fails(TooMany, {"most": 300}, fewest_wrong, house, None, log)
        # Also for a log that can be: all its results are taken for holes.
        holed = tuple(entry + (None,) for entry in told)
        log = filling_of(house, None, holed[:-1] + (told[-1] + (4,),))
        self.same(can_be(house, None, log), True)
        self.fails(TooMany, {"most": 300}, wrong_lots, house, None, log)
        self.fails(TooMany, {"most": 300}, fewest_wrong, house, None, log)
        self.same(is_mended(house, None, log, 0, log), True)
        self.same(wrong_lots(house, None, log[:-1]), [()])

    def test_just_300(self):
        house, told = JUST_300
        good = filling_of(house, None, tuple(entry + (None,) for entry in told))
        self.same([wrong_lots(house, None, good), fewest_wrong(house, None, good)], [[()], (0, good)])
        log = self.log(told)
        lots = wrong_lots(house, None, log)
        number, mended = fewest_wrong(house, None, log)
        self.assertEqual(number, min(len(lot) for lot in lots))
        self.assertIn(changed(log, mended), lots)
        self.same(is_mended(house, None, log, number, mended), True)


class TestLarge(Case):

    def check_lots(self, house, start, log):
        """Each lot is one, as it is told of holes, and no lesser one is."""
        for lot in wrong_lots(house, start, log):
            self.assertTrue(self.lets(house, start, log, lot))
            self.assertFalse(any(self.lets(house, start, log, lot[:at] + lot[at + 1:]) for at in range(len(lot))))

    def lets(self, house, start, log, lot):
        holed = tuple(entry[:2] + (None,) if at in lot else entry for at, entry in enumerate(log))
        try:
            return len(knowledges_for(house, start, holed)) > 0
        except ValueError:
            return False

    def test_logs_of_large_houses(self):
        dice = random.Random(40)
        told = 0
        for house in BIG * 2:
            for start, state in big_starts(dice, house):
                log = floors_changed(dice, house, random_run(dice, house, state, 10)[1], 3)
                try:
                    number, mended = fewest_wrong(house, start, log)
                except TooMany:
                    continue
                told += number > 0
                self.same(is_mended(house, start, log, number, mended), True, house, start, log)
                self.assertIn(number, [len(lot) for lot in wrong_lots(house, start, log)])
                self.check_lots(house, start, log)
        self.assertGreater(told, 6)

    def test_long_logs(self):
        dice = random.Random(41)
        for house in [(16, (12,)), (16, (1,)), (5, (1, 1)), (12, (6, 6)), (4, (1, 2)), (16, (3, 3, 3, 3))]:
            for start, state in big_starts(dice, house):
                log = tuple(("ask", dice.randrange(3), 0) for _ in range(60))
                number, mended = fewest_wrong(house, start, log)
                self.same(is_mended(house, start, log, number, mended), True, house, start, log)
                wrong = floors_changed(dice, house, mended, 5)
                self.assertLessEqual(fewest_wrong(house, start, wrong)[0], 5)
                self.same(fewest_wrong(house, start, mended), (0, mended), house, start)


if __name__ == "__main__":
    unittest.main()
