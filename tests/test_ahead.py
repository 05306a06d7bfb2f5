"""Point [24]: one move back."""

import random
import unittest

from floorkeepers.ahead import ahead
from floorkeepers.errors import CannotBe, NotFit
from floorkeepers.leading import first_knowledge, knowledge_behind, words_through
from tests.helper import (BIG, Case, all_behind, asks_by_keepers, big_starts, entries_of, exact, fits_like, moves_of,
                          random_knowledges, random_run, fitting_some, small_knowledges, states_by_counting)

HOUSE, EMPTY = (3, (1, 1)), (2, 2, 2)
LOG = (("ask", 0, 2), ("ask", 1, 2), ("ask", 2, 2))
KNOWN = ((1, 0, 2), ((0, 1, 1, 1), (0, 1, 2, 2)))


class TestAhead(Case):

    def check(self, house, known, entry, state):
        """What is told: a state that fits, and a move there with this entry that leads to the state."""
        given = exact((house, known, entry, state))
        got = ahead(house, known, entry, state)
        self.assertEqual(exact((house, known, entry, state)), given)
        self.assertTrue(isinstance(got, tuple) and len(got) == 2, got)
        before, move = got
        self.assertTrue(fits_like(known, before), (house, known, entry, state, got))
        found = [exact(pair) for pair in moves_of(house, before, entry)]
        self.assertIn(exact((move, state)), found, (house, known, entry, state, got))
        return before

    def test_by_hand(self):
        self.same(ahead(HOUSE, KNOWN, LOG[2], (2, 1, 0)), ((1, 0, 2), ("ask", 2, (1, 0))))
        self.same(ahead(HOUSE, KNOWN, LOG[2], (1, 2, 0)), ((1, 0, 2), ("ask", 2, (1, 1))))
        self.same(ahead(HOUSE, KNOWN, ("ask", 0, 1), (0, 1, 2)), ((1, 0, 2), ("ask", 0, (1,))))
        self.same(ahead(HOUSE, KNOWN, ("ask", 1, 0), (1, 0, 2)), ((1, 0, 2), ("ask", 1, ())))
        self.same(ahead(HOUSE, KNOWN, ("strike", 0, 1), (2, 0, 2)), ((1, 0, 2), ("strike", 0, ())))
        self.same(ahead(HOUSE, KNOWN, ("strike", 2, 2), (1, 0, 2)), ((1, 0, 2), ("strike", 2, ())))
        self.same(ahead(HOUSE, first_knowledge(HOUSE, EMPTY), LOG[0], (0, 2, 2)), (EMPTY, ("ask", 0, ())))

    def test_cannot_be_comes_first(self):
        # Neither can the entry be, nor does the state fit.
        for entry, state in [(("ask", 2, 0), EMPTY), (("ask", 0, 2), (2, 1, 0)), (("strike", 1, 1), EMPTY)]:
            self.fails(CannotBe, {"index": 0}, ahead, HOUSE, KNOWN, entry, state)

    def test_states_that_do_not_fit(self):
        for state in [EMPTY, (1, 0, 2), (0, 1, 2), (2, 2, 0), (2, 0, 1), (0, 2, 1)]:
            self.fails(NotFit, {}, ahead, HOUSE, KNOWN, LOG[2], state)
        self.fails(NotFit, {}, ahead, HOUSE, KNOWN, ("strike", 0, 1), (1, 0, 2))
        # Behind this entry the state has the right sizes, but cannot be.
        known = knowledge_behind((4, (1, 1)), (2, 2, 2, 2), LOG)
        self.fails(NotFit, {}, ahead, (4, (1, 1)), known, ("ask", 2, 0), (2, 2, 0, 1))

    def test_small_houses(self):
        for house, known, states in small_knowledges():
            for entry in entries_of(house):
                behind = all_behind(house, states, entry)
                for state in behind[::len(behind) // 6 + 1]:
                    self.check(house, known, entry, state)
                others = [state for state in states_by_counting(house) if state not in behind]
                for state in others[::len(others) // 4 + 1]:
                    if behind:
                        self.fails(NotFit, {}, ahead, house, known, entry, state)
                    else:
                        self.fails(CannotBe, {"index": 0}, ahead, house, known, entry, state)

    def test_large_houses(self):
        dice = random.Random(24)
        for house, known in random_knowledges(dice, 8):
            for before in fitting_some(dice, known, 4):
                thing = dice.randrange(house[0])
                entry = (dice.choice(["ask", "ask", "strike"]), thing, before[thing])
                for _, state in dice.sample(moves_of(house, before, entry), 1):
                    self.check(house, known, entry, state)

    def test_back_to_the_start(self):
        dice = random.Random(25)
        for house in BIG:
            for start, state in big_starts(dice, house):
                _, log, state = random_run(dice, house, state, 40)
                knowns = words_through(house, start, log)
                for at in range(len(log) - 1, -1, -1):
                    state = self.check(house, knowns[at], log[at], state)
                if start is not None:
                    self.same(state, start)

    def test_passed_on_through_all_floors(self):
        house = (5, (1, 1, 1, 1))
        start = (0, 1, 2, 3, 4)
        known = first_knowledge(house, start)
        for _, state in asks_by_keepers(house, start, 4):
            self.same(self.check(house, known, ("ask", 4, 4), state), start)
        self.same(ahead(house, known, ("ask", 4, 4), (4, 1, 2, 3, 0)), (start, ("ask", 4, (0, 0, 0, 0))))
        self.same(ahead(house, known, ("ask", 4, 4), (2, 1, 4, 3, 0)), (start, ("ask", 4, (0, 0, 2, 2))))

    def test_the_same_again(self):
        for _ in range(2):
            self.same(ahead(HOUSE, KNOWN, LOG[2], (2, 1, 0)), ((1, 0, 2), ("ask", 2, (1, 0))))


if __name__ == "__main__":
    unittest.main()
