"""Point [29]: what parts two knowledges, with the guarantee [8]."""

import random
import unittest

from floorkeepers.blocks import alike, lies_in
from floorkeepers.leading import can_be, first_knowledge
from floorkeepers.parting import can_happen, naming_log, parting_log, parting_state
from tests.helper import (BIG, Case, SMALL, TINY, all_behind, big_starts, entries_of, exact, fits_like, fitting,
                          known_behind_logs, pairs_of_knowledges, random_knowledges, random_run, shuffled, sizes_like,
                          small_knowledges, some_log, some_state, states_by_counting, swapped)

HOUSE, KNOWN = (4, (1, 1)), ((2, 1, 0, 3), ((0, 1, 1, 1, 1), (0, 1, 1, 2, 2)))
SHARP = ((2, 1, 0, 3), ((0, 1, 1, 1, 1), (0, 1, 2, 2, 2)))
NAMED = (("ask", 2, 0), ("ask", 0, 1))


def happens(house, states, log):
    """Whether a log can be from some of these states, by all keepers."""
    for entry in log:
        states = all_behind(house, states, entry)
    return len(states) > 0


class TestCanHappen(Case):

    def test_by_hand(self):
        self.same([can_happen(HOUSE, known, NAMED) for known in (KNOWN, SHARP)], [True, False])
        self.same([can_happen(HOUSE, known, ()) for known in (KNOWN, SHARP)], [True, True])
        self.same(can_happen(HOUSE, KNOWN, (("ask", 3, 2), ("strike", 3, 0), ("ask", 3, 2))), True)
        self.same(can_happen(HOUSE, KNOWN, (("ask", 3, 2), ("strike", 3, 0), ("ask", 3, 1))), False)
        self.same(can_happen(HOUSE, KNOWN, (("ask", 3, 1), ("strike", 3, 0), ("ask", 3, 2))), False)
        self.same(can_happen((0, (1,)), ((), ((0,),)), ()), True)

    def test_small_houses(self):
        dice = random.Random(29)
        told = [0, 0]
        for house, known, states in small_knowledges()[::3]:
            log, _ = some_log(dice, house, states, 4)
            self.same(can_happen(house, known, log), True, house, known, log)
            for _ in range(3 if house[0] else 0):
                other = log[:dice.randrange(4)] + (dice.choice(entries_of(house)),)
                want = happens(house, states, other)
                told[want] += 1
                self.same(can_happen(house, known, other), want, house, known, other)
        self.assertGreater(min(told), 300)

    def test_large_houses(self):
        dice = random.Random(30)
        for house in BIG:
            for start, state in big_starts(dice, house):
                log = random_run(dice, house, state, 60)[1]
                known = first_knowledge(house, start)
                self.same(can_happen(house, known, log), True, house, start, log)
                for at in (0, 30, 59):
                    # What has just been asked for is on floor 0, what was struck out is not.
                    word, x, _ = log[at]
                    bad = log[:at + 1] + (("ask", x, 1 if word == "ask" else 0),) + log[at + 1:]
                    self.same(can_happen(house, known, bad), False, house, start, bad)


class TestNaming(Case):

    def test_by_hand(self):
        self.same(naming_log(HOUSE, (1, 2, 0, 2)), NAMED)
        self.same(naming_log((5, (2, 1, 2)), (2, 0, 3, 2, 0)),
                  (("ask", 1, 0), ("ask", 4, 0), ("ask", 0, 2), ("ask", 3, 2)))
        self.same([naming_log(HOUSE, (2, 2, 2, 2)), naming_log((0, (1,)), ())], [(), ()])

    def test_from_no_other_state_of_the_same_sizes(self):
        for house in TINY + [(4, (1, 1)), (4, (1, 2)), (4, (2, 1)), (4, (1, 1, 1)), (4, (3, 3)), (5, (1, 1)), (5, (3,))]:
            for state in states_by_counting(house):
                log = naming_log(house, state)
                asked = [(floor, x) for x, floor in enumerate(state) if floor < len(house[1])]
                self.same(log, tuple(("ask", x, floor) for floor, x in sorted(asked)), house, state)
                for other in states_by_counting(house):
                    if sorted(other) == sorted(state):
                        self.same(happens(house, [other], log), other == state, house, state, other)

    def test_large_houses(self):
        dice = random.Random(31)
        for house in BIG:
            for _ in range(10):
                state = some_state(dice, house)
                log = naming_log(house, state)
                self.assertEqual(len(log), sum(1 for floor in state if floor < len(house[1])))
                self.same(can_be(house, state, log), True, house, state)
                other = list(state)
                dice.shuffle(other)
                self.same(can_be(house, tuple(other), log), tuple(other) == state, house, state, other)


class TestParting(Case):

    def check(self, house, one, other):
        """What parts two knowledges, or that nothing does; whether the state fits the first one."""
        ahead = exact((one, other))
        state, log = parting_state(house, one, other), parting_log(house, one, other)
        self.assertEqual(exact((one, other)), ahead)
        self.assertEqual(exact((parting_state(house, one, other), parting_log(house, one, other))),
                         exact((state, log)))
        if alike(one, other):
            self.same([state, log], [None, None], house, one, other)
            return None
        self.assertIs(state.__class__, tuple)
        fit = [fits_like(one, state), fits_like(other, state)]
        self.assertEqual(sorted(fit), [False, True], (house, one, other, state))
        self.assertLessEqual(len(log), one[1][-1][-1])
        self.assertEqual(sorted([can_happen(house, one, log), can_happen(house, other, log)]), [False, True])
        return fit[0]

    def test_by_hand(self):
        # (1, 2, 0, 2) alone fits the one, and not the sharp one.
        for one, other in [(KNOWN, SHARP), (SHARP, KNOWN)]:
            self.same(parting_state(HOUSE, one, other), (1, 2, 0, 2))
            self.check(HOUSE, one, other)
        for known in (KNOWN, SHARP):
            self.same([parting_state(HOUSE, known, known), parting_log(HOUSE, known, known)], [None, None])
        self.same(parting_state(HOUSE, KNOWN, ((2, 0, 1, 3), KNOWN[1])), None)
        self.same(parting_log(HOUSE, KNOWN, ((2, 0, 1, 3), KNOWN[1])), None)

    def test_neither_lies_in_the_other(self):
        house, words = (2, (1,)), ((0, 1, 1),)
        one, other = ((0, 1), words), ((1, 0), words)
        self.assertIn(parting_state(house, one, other), [(0, 1), (1, 0)])
        self.assertIn(parting_log(house, one, other), [(("ask", 0, 0),), (("ask", 1, 0),)])
        self.check(house, one, other)
        other = ((2, 0, 3, 1), KNOWN[1])
        self.same([lies_in(HOUSE, KNOWN, other), lies_in(HOUSE, other, KNOWN)], [False, False])
        self.check(HOUSE, KNOWN, other)
        self.check(HOUSE, other, KNOWN)

    def test_without_things(self):
        for house in [(0, (1,)), (0, (2, 1))]:
            known = ((), ((0,),) * len(house[1]))
            self.same([parting_state(house, known, known), parting_log(house, known, known)], [None, None])
        # Things, but all of them OUT.
        one, other = ((0, 1, 2), ((0, 0, 0, 0),)), ((2, 0, 1), ((0, 0, 0, 0),))
        self.same([parting_state((3, (1,)), one, other), parting_log((3, (1,)), one, other)], [None, None])

    def test_small_houses(self):
        dice = random.Random(32)
        told = {None: 0, True: 0, False: 0}
        for house in SMALL:
            for one, other in pairs_of_knowledges(dice, house, 20):
                if sizes_like(one) != sizes_like(other):
                    continue
                which = self.check(house, one, other)
                told[which] += 1
                first, second = fitting(house, *one), fitting(house, *other)
                self.same(which is None, first == second, house, one, other)
                if which is not None:
                    log = parting_log(house, one, other)
                    self.same([happens(house, first, log), happens(house, second, log)], [which, not which],
                              house, one, other, log)
        self.assertGreater(min(told.values()), 60)

    def test_large_houses(self):
        dice = random.Random(33)
        for house, known in random_knowledges(dice, 4) + known_behind_logs(dice, 2):
            self.assertEqual(self.check(house, known, known), None)
            for _ in range(3):
                at = dice.randrange(house[0] - 1)
                self.check(house, known, swapped(known, at, at + 1))
                self.check(house, (shuffled(dice, house[0]), known[1]), known)


if __name__ == "__main__":
    unittest.main()
