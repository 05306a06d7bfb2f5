"""Point [35]: results that nobody saw."""

import itertools
import random
import unittest

from floorkeepers.blocks import normal_of
from floorkeepers.errors import CannotBe, TooMany
from floorkeepers.leading import can_be, first_knowledge, knowledge_behind, led_by
from floorkeepers.unseen import filling_of, floors_behind, hole_floors, is_filling, knowledges_for
from tests.helper import (BIG, Case, JUST_300, JUST_301, SMALL, all_behind, big_starts, exact, first_states,
                          number_changes, odd_values, part_changes, random_run, some_log, starts_of)

HOUSE, EMPTY = (4, (1, 1)), (2, 2, 2, 2)
LOG = (("ask", 0, 2), ("ask", 1, 2), ("ask", 2, None), ("ask", 0, None))
ALL = (knowledges_for, hole_floors, filling_of)


def with_holes(log, indexes):
    """The log with holes at these indexes."""
    return tuple(entry[:2] + (None,) if index in indexes else entry for index, entry in enumerate(log))


def fillings_of(house, start, holed):
    """A dict from each filling to all states to which it leads, by all keepers; or the index that cannot be."""
    found = {(): first_states(house, start)}
    for index, (word, x, told) in enumerate(holed):
        longer = {}
        for log, states in found.items():
            for floor in range(len(house[1]) + 1) if told is None else [told]:
                behind = all_behind(house, states, (word, x, floor))
                if behind:
                    longer[log + ((word, x, floor),)] = behind
        if not longer:
            return index
        found = longer
    return found


def some_holed(dice, house, start, long):
    """A holed log that can be, or one that may have an entry that cannot."""
    log, _ = some_log(dice, house, first_states(house, start), long)
    if log and dice.randrange(3) == 0:
        at = dice.randrange(len(log))
        log = log[:at] + (log[at][:2] + (dice.randrange(len(house[1]) + 1),),) + log[at + 1:]
    return with_holes(log, [at for at in range(len(log)) if dice.randrange(2)])


class TestSmall(Case):

    def check(self, house, start, holed):
        """All that is told of a holed log, by all fillings; how many these are."""
        ahead = exact(holed)
        found = fillings_of(house, start, holed)
        if isinstance(found, int):
            for call in ALL:
                self.fails(CannotBe, {"index": found}, call, house, start, holed)
            for x in range(house[0]):
                self.fails(CannotBe, {"index": found}, floors_behind, house, start, holed, x)
            return 0
        knowns = {knowledge_behind(house, start, log) for log in found}
        self.same(self.twice(knowledges_for, house, start, holed), sorted(knowns), house, start, holed)
        # All of these are unlike, and unlike ones have other states.
        self.assertEqual(len({normal_of(known) for known in knowns}), len(knowns))
        holes = [index for index, entry in enumerate(holed) if entry[2] is None]
        self.same(hole_floors(house, start, holed),
                  tuple(tuple(sorted({log[index][2] for log in found})) for index in holes), house, start, holed)
        self.assertIn(exact(filling_of(house, start, holed)), [exact(log) for log in found])
        self.same(filling_of(house, start, holed), filling_of(house, start, holed))
        for x in range(house[0]):
            want = {state[x] for states in found.values() for state in states}
            self.same(floors_behind(house, start, holed, x), tuple(sorted(want)), house, start, holed, x)
        self.assertEqual(exact(holed), ahead)
        return len(found)

    def test_by_hand(self):
        self.same(knowledges_for(HOUSE, EMPTY, LOG), [((0, 2, 1, 3), ((0, 1, 1, 1, 1), (0, 1, 1, 2, 2))),
                                                      ((0, 2, 1, 3), ((0, 1, 1, 1, 1), (0, 1, 2, 2, 2)))])
        self.same([hole_floors(HOUSE, EMPTY, LOG), hole_floors(HOUSE, EMPTY, LOG + (("ask", 1, 1),)),
                   floors_behind(HOUSE, EMPTY, LOG, 2)], [((2,), (1, 2)), ((2,), (2,)), (1, 2)])
        self.same(filling_of(HOUSE, EMPTY, LOG + (("ask", 1, 1),)),
                  (("ask", 0, 2), ("ask", 1, 2), ("ask", 2, 2), ("ask", 0, 2), ("ask", 1, 1)))
        self.check(HOUSE, EMPTY, LOG)
        self.check(HOUSE, EMPTY, LOG + (("ask", 1, 1),))
        self.check(HOUSE, EMPTY, LOG + (("strike", 1, None), ("strike", 3, 2), ("ask", 0, None)))

    def test_no_entries(self):
        for house, start in [(HOUSE, EMPTY), (HOUSE, None), ((0, (1,)), ())]:
            self.same([knowledges_for(house, start, ()), hole_floors(house, start, ()), filling_of(house, start, ())],
                      [[first_knowledge(house, start)], (), ()])
            self.check(house, start, ())

    def test_no_holes(self):
        dice = random.Random(35)
        for house in SMALL:
            start = dice.choice(starts_of(house))
            log, _ = some_log(dice, house, first_states(house, start), 12)
            self.same(knowledges_for(house, start, log), [knowledge_behind(house, start, log)], house, start, log)
            self.same([hole_floors(house, start, log), filling_of(house, start, log)], [(), log], house, start, log)
            self.check(house, start, log)

    def test_holes_alone(self):
        dice = random.Random(36)
        for house in SMALL:
            for start in [dice.choice(starts_of(house)), starts_of(house)[-1]]:
                for long in (1, 2, 4) if house[0] else ():
                    holed = tuple((dice.choice(["ask", "ask", "strike"]), dice.randrange(house[0]), None)
                                  for _ in range(long))
                    self.assertGreater(self.check(house, start, holed), 0)

    def test_some_holes(self):
        dice = random.Random(37)
        told = [0, 0]
        for house in SMALL * 3:
            for start in [dice.choice(starts_of(house)), starts_of(house)[-1]]:
                told[self.check(house, start, some_holed(dice, house, start, dice.choice([2, 4, 6]))) > 0] += 1
        self.assertGreater(min(told), 8)

    def test_what_comes_behind_tells_of_a_hole(self):
        # Only 0 or 1 can have been put down for 2, and 1 is there still.
        house, start = (3, (2,)), (0, 1, 1)
        for holed, want in [((("ask", 1, None), ("ask", 2, None), ("ask", 0, 0)), ((1,), (1,))),
                            ((("ask", 1, None), ("ask", 2, None), ("ask", 0, None)), ((1,), (1,), (0, 1))),
                            ((("ask", 1, None), ("ask", 2, None), ("ask", 0, None), ("ask", 1, 0)), ((1,), (1,), (1,)))]:
            self.same(hole_floors(house, start, holed), want, holed)
            self.check(house, start, holed)
        house, holed = (3, (1, 1)), (("ask", 0, None), ("ask", 1, None), ("ask", 0, 1), ("ask", 2, 2), ("ask", 1, 2))
        self.same(hole_floors(house, None, holed[:2]), ((0, 1, 2), (1, 2)))
        self.check(house, None, holed)

    def test_found_there_or_out(self):
        # In a house of one floor that is filled up: [35], the last paragraph.
        dice = random.Random(38)
        told = 0
        for house in [(3, (1,)), (3, (2,)), (4, (2,)), (5, (3,)), (4, (1,))] * 4:
            log, states = some_log(dice, house, first_states(house, None), 5)
            for x in range(house[0]):
                if states[0].count(0) == house[1][0] and any(state[x] for state in states):
                    found, out = [all_behind(house, states, ("ask", x, floor)) for floor in (0, 1)]
                    self.assertTrue(set(found) <= set(out), (house, log, x))
                    self.check(house, None, log + (("ask", x, None),))
                    told += bool(found)
        self.assertGreater(told, 12)


class TestIsFilling(Case):

    def test_by_hand(self):
        for thing, want in [((("ask", 0, 2), ("ask", 1, 2), ("ask", 2, 2), ("ask", 0, 1)), True),
                            ((("ask", 0, 2), ("ask", 1, 2), ("ask", 2, 2), ("ask", 0, 2)), True),
                            ((("ask", 0, 2), ("ask", 1, 2), ("ask", 2, 2), ("ask", 0, 0)), False),
                            ((("ask", 0, 2), ("ask", 1, 2), ("ask", 2, 2), ("ask", 0, 3)), False),
                            ((("ask", 0, 2), ("ask", 1, 2), ("ask", 2, 2), ("ask", 3, 2)), False),
                            ((("ask", 0, 2), ("ask", 1, 2), ("ask", 2, 2), ("strike", 0, 1)), False),
                            ((("ask", 0, 2), ("ask", 1, 2), ("ask", 2, 2)), False),
                            ((("ask", 0, 2), ("ask", 1, 2), ("ask", 2, 2), ("ask", 0, 1), ("ask", 1, 1)), False),
                            ((("ask", 0, 2), ("ask", 1, 2), ("ask", 2, 1), ("ask", 0, 1)), False), (LOG, False), ((), False)]:
            self.same(is_filling(HOUSE, EMPTY, LOG, thing), want, thing)
        # Another floor than the one that was seen, though it could be.
        seen = LOG[:2] + (("ask", 2, 2), ("ask", 0, 1))
        self.same([is_filling(HOUSE, EMPTY, seen, seen), is_filling(HOUSE, EMPTY, seen, seen[:3] + (("ask", 0, 2),))],
                  [True, False])
        self.same([is_filling(HOUSE, EMPTY, (), thing) for thing in ((), [], None, ((),))], [True, False, False, False])
        # None of a log of which no filling can be, and no error.
        bad = (("ask", 0, None), ("ask", 0, 1), ("ask", 1, None))
        self.same(is_filling(HOUSE, EMPTY, bad, (("ask", 0, 2), ("ask", 0, 1), ("ask", 1, 2))), False)

    def test_small_houses(self):
        dice = random.Random(39)
        told = [0, 0]
        for house in SMALL:
            start = dice.choice(starts_of(house))
            holed = some_holed(dice, house, start, 4)
            found = fillings_of(house, start, holed)
            found = {} if isinstance(found, int) else found
            things = [tuple(entry[:2] + (floor,) for entry, floor in zip(holed, floors))
                      for floors in itertools.product(range(len(house[1]) + 1), repeat=len(holed))]
            for log in sorted(found)[:1]:
                things += part_changes(log) + number_changes(log, 3)
            for thing in things + [holed]:
                want = exact(thing) in [exact(log) for log in found]
                told[want] += 1
                self.same(is_filling(house, start, holed, thing), want, house, start, holed, thing)
        self.assertGreater(min(told), 25)

    def test_any_values(self):
        for thing in odd_values():
            for value in [thing, (thing,) * 4, LOG[:3] + (thing,), LOG[:2] + (("ask", 2, 2), ("ask", 0, thing)), [LOG]]:
                self.same(is_filling(HOUSE, EMPTY, LOG, value), False, value)


class TestTooMany(Case):

    def holed(self, told):
        return tuple(entry + (None,) for entry in told)

    def many(self, house, start, holed):
        """How many unlike knowledges there are behind each entry, by all floors of each one."""
        knowns, found = {first_knowledge(house, start)}, []
        for word, x, _ in holed:
            longer = set()
            for known, floor in itertools.product(knowns, range(len(house[1]) + 1)):
                try:
                    longer.add(led_by(house, known, ((word, x, floor),)))
                except CannotBe:
                    continue
            knowns = longer
            found.append(len({normal_of(known) for known in knowns}))
        return found

    def test_just_300(self):
        house, told = JUST_300
        holed = self.holed(told)
        many = self.many(house, None, holed)
        self.assertEqual([max(many), many[-1]], [300, 300])
        knowns = knowledges_for(house, None, holed)
        self.assertEqual([len(knowns), len(set(knowns)), sorted(knowns)], [300, 300, knowns])
        log = filling_of(house, None, holed)
        self.same(is_filling(house, None, holed, log), True)
        self.assertIn(knowledge_behind(house, None, log), knowns)
        self.same(hole_floors(house, None, holed)[0], (0, 1, 2, 3, 4))
        self.same(floors_behind(house, None, holed, 2), (4,))

    def fails_by(self, error, fields, house, start, holed):
        for call in ALL:
            self.fails(error, fields, call, house, start, holed)
        self.fails(error, fields, floors_behind, house, start, holed, 0)

    def test_one_more(self):
        house, told = JUST_301
        holed = self.holed(told)
        many = self.many(house, None, holed)
        self.assertEqual([max(many), many[-1]], [301, 301])
        self.fails_by(TooMany, {"most": 300}, house, None, holed)
        self.assertEqual(len(knowledges_for(house, None, holed[:-1])), many[-2])

    def test_whichever_entry_is_first(self):
        house, told = JUST_301
        holed, bad = self.holed(told), (("ask", 2, 3),)
        # Just asked for, so it is on floor 0.
        self.fails_by(TooMany, {"most": 300}, house, None, holed + bad)
        # A thing that was just asked for is found elsewhere, ahead of where there are too many.
        self.fails_by(CannotBe, {"index": 5}, house, None, holed[:5] + (("ask", 3, 1),) + holed[5:])
        self.fails_by(CannotBe, {"index": 0}, house, (4,) * 9, (("ask", 3, 1),) + holed)
        # There would be fewer behind a later entry.
        self.fails_by(TooMany, {"most": 300}, house, None, holed + tuple(("strike", x, None) for x in range(9)))
        # What is seen lessens them.
        seen = holed[:-1] + (holed[-1][:2] + (4,),)
        self.assertLess(len(knowledges_for(house, None, seen)), 300)
        # It is not told of by is_filling.
        log = filling_of(house, None, seen)
        self.same(is_filling(house, None, holed, log), True)
        self.same(is_filling(house, None, holed + bad, log + bad), False)

    def test_beyond(self):
        house = (16, (3, 3, 3, 3))
        holed = tuple(("ask", x * 5 % 16, None) for x in range(60))
        self.fails_by(TooMany, {"most": 300}, house, None, holed)


class TestLarge(Case):

    def test_some_holes_in_long_logs(self):
        dice = random.Random(40)
        told = 0
        for house in BIG:
            for start, state in big_starts(dice, house):
                log = random_run(dice, house, state, 60)[1]
                holes = sorted(dice.sample(range(60), 4))
                told += self.check(house, start, with_holes(log, holes), log, holes)
        self.assertGreater(told, 10)

    def check(self, house, start, holed, log, holes):
        self.same(is_filling(house, start, holed, log), True, house, start, holed)
        try:
            knowns = knowledges_for(house, start, holed)
        except TooMany:
            return 0
        self.assertIn(knowledge_behind(house, start, log), knowns)
        floors = hole_floors(house, start, holed)
        self.assertEqual(len(floors), len(holes))
        for index, some in zip(holes, floors):
            self.assertIn(log[index][2], some)
            for floor in range(len(house[1]) + 1):
                one = holed[:index] + (holed[index][:2] + (floor,),) + holed[index + 1:]
                if floor in some:
                    filled = filling_of(house, start, one)
                    self.assertTrue(can_be(house, start, filled) and is_filling(house, start, holed, filled))
                else:
                    with self.assertRaises(CannotBe):
                        filling_of(house, start, one)
        return 1

    def test_few_things_asked_for(self):
        dice = random.Random(41)
        for house in [(16, (3, 3, 3, 3)), (16, (1, 2, 4, 5)), (16, (12,)), (12, (6, 6))]:
            for start, _ in big_starts(dice, house):
                holed = tuple(("ask", dice.randrange(3), None) for _ in range(60))
                log = filling_of(house, start, holed)
                self.same(is_filling(house, start, holed, log), True, house, start, holed)
                self.assertIn(knowledge_behind(house, start, log), knowledges_for(house, start, holed))


if __name__ == "__main__":
    unittest.main()
