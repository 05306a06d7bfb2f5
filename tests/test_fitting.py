"""Point [21]: the states that fit a knowledge."""

import random
import unittest

from floorkeepers.errors import NotNested, TooMany
from floorkeepers.fitting import back_state, fits, front_state, reaching_state, states_of
from floorkeepers.leading import first_knowledge, knowledge_behind
from tests.helper import (BIG, Case, big_starts, counted, counted_states, exact, fits_like, known_behind_logs,
                          nested_like, random_knowledges, small_knowledges, states_by_counting)

HOUSE, KNOWN = (4, (1, 1)), ((2, 1, 0, 3), ((0, 1, 1, 1, 1), (0, 1, 1, 2, 2)))
# Just 3,000 states fit these words.
JUST = ((15, (3, 3, 1, 4)), (tuple(range(15)), ((0, 0, 0, 0, 0, 0, 1, 1, 1, 1, 1, 1, 1, 1, 1, 1),
                                                (0, 1, 2, 2, 2, 3, 3, 3, 3, 3, 4, 4, 4, 4, 4, 4),
                                                (0, 1, 2, 3, 3, 3, 3, 3, 3, 3, 4, 4, 4, 4, 4, 5),
                                                (0, 1, 2, 3, 3, 3, 3, 3, 3, 3, 4, 4, 4, 4, 5, 6))))


def within(order, state, floor, count):
    """How many of the first things of an order are within a floor."""
    return sum(1 for x in order[:count] if state[x] <= floor)


class TestFits(Case):

    def test_by_hand(self):
        for state, want in [((1, 2, 0, 2), True), ((2, 1, 0, 2), True), ((2, 2, 0, 1), False), ((0, 1, 2, 2), False),
                            ((1, 0, 2, 2), False), ((2, 2, 0, 2), False), ((2, 2, 2, 2), False), ((0, 2, 1, 2), False)]:
            self.same(fits(HOUSE, KNOWN, state), want, state)
        self.same(fits((0, (1, 2)), ((), ((0,), (0,))), ()), True)

    def test_sizes_have_to_be_the_same(self):
        # More things within each floor would let each word be kept, too.
        house = (3, (2, 1))
        known = ((0, 1, 2), ((0, 1, 1, 1), (0, 1, 1, 2)))
        self.same([fits(house, known, state) for state in [(0, 1, 2), (0, 0, 2), (0, 0, 1), (0, 2, 2), (0, 2, 1)]],
                  [True, False, False, False, True])

    def test_each_state(self):
        for house, known, states in small_knowledges():
            for state in states_by_counting(house):
                self.same(fits(house, known, state), state in states, house, known, state)


class TestStatesOf(Case):

    def test_by_hand(self):
        self.same(states_of(HOUSE, KNOWN), [(1, 2, 0, 2), (2, 1, 0, 2)])
        self.same(states_of((0, (3,)), ((), ((0,),))), [()])
        self.same(states_of((2, (1, 1)), ((1, 0), ((0, 0, 0), (0, 0, 0)))), [(2, 2)])
        self.same(states_of((2, (3, 1)), ((1, 0), ((0, 1, 2), (0, 1, 2)))), [(0, 0)])

    def test_ascending_and_whole(self):
        for house, known, states in small_knowledges():
            self.same(states_of(house, known), states, house, known)

    def test_large_ones(self):
        dice = random.Random(21)
        told = 0
        for house, known in random_knowledges(dice, 10) + known_behind_logs(dice, 2):
            many = counted_states(known)
            if many > 3000:
                self.fails(TooMany, {"most": 3000}, states_of, house, known)
                continue
            told += 1
            states = states_of(house, known)
            self.assertEqual(len(states), many)
            self.assertEqual(states, sorted(set(states)))
            self.assertTrue(all(fits_like(known, state) for state in states))
        self.assertGreater(told, 20)

    def test_just_3000_and_beyond(self):
        house, known = JUST
        states = states_of(house, known)
        self.assertEqual(len(states), 3000)
        self.assertEqual(counted_states(known), 3000)
        self.assertEqual(states, sorted(set(states)))
        self.assertTrue(all(counted(known[0], known[1], state) for state in states))
        # One thing more, last in order, which stands OUT in all states.
        order, words = known[0] + (15,), known[1]
        self.assertEqual(len(states_of((16, house[1]), (order, tuple(word + word[-1:] for word in words)))), 3000)
        # One thing more, first in order, which may stand OUT, or elsewhere.
        more = ((15,) + known[0], tuple((0,) + word for word in words))
        self.assertGreater(counted_states(more), 3000)
        self.fails(TooMany, {"most": 3000}, states_of, (16, house[1]), more)
        # 3,003 states.
        self.assertEqual(counted_states(first_knowledge((15, (5,)), None)), 3003)
        self.fails(TooMany, {"most": 3000}, states_of, (15, (5,)), first_knowledge((15, (5,)), None))
        self.fails(TooMany, {"most": 3000}, states_of, (14, (6,)), first_knowledge((14, (6,)), None))

    def test_millions(self):
        for house in [(16, (3, 3, 3, 3)), (16, (1, 2, 4, 5)), (16, (1, 1, 1, 9)), (16, (8,))]:
            self.fails(TooMany, {"most": 3000}, states_of, house, first_knowledge(house, None))
            self.fails(TooMany, {"most": 3000}, states_of, house,
                       knowledge_behind(house, None, (("ask", 5, len(house[1])),)))

    def test_asked_again(self):
        self.twice(states_of, HOUSE, KNOWN)
        self.twice(states_of, (3, (1, 1)), first_knowledge((3, (1, 1)), None))
        self.twice(states_of, (0, (1,)), ((), ((0,),)))


class TestStates(Case):

    def check(self, house, known):
        order, words = known
        front = front_state(house, known)
        self.assertTrue(fits_like(known, front), (house, known, front))
        for floor, word in enumerate(words):
            self.assertTrue(all(front[x] <= floor for x in order[:word[-1]]), (house, known, front))
        if nested_like(words):
            back = back_state(house, known)
            self.assertTrue(fits_like(known, back), (house, known, back))
            for floor, word in enumerate(words):
                self.assertEqual([within(order, back, floor, d) for d in range(len(word))], list(word), (house, known))
        else:
            self.fails(NotNested, {}, back_state, house, known)
        for floor, word in enumerate(words):
            for count in range(len(word)):
                state = reaching_state(house, known, floor, count)
                self.assertTrue(fits_like(known, state), (house, known, floor, count, state))
                self.assertEqual(within(order, state, floor, count), word[count], (house, known, floor, count))
                self.same(reaching_state(house, known, floor, count), state)

    def test_by_hand(self):
        self.same([front_state(HOUSE, KNOWN), back_state(HOUSE, KNOWN)], [(2, 1, 0, 2), (1, 2, 0, 2)])
        self.same([front_state((0, (1,)), ((), ((0,),))), back_state((0, (1,)), ((), ((0,),)))], [(), ()])
        house = (4, (1, 1, 1))
        known = ((3, 1, 2, 0), ((0, 0, 1, 1, 1), (0, 0, 1, 1, 2), (0, 0, 1, 2, 3)))
        self.same([front_state(house, known), back_state(house, known)], [(3, 1, 2, 0), (1, 0, 2, 3)])
        self.same([reaching_state(HOUSE, KNOWN, 1, 2), reaching_state(HOUSE, KNOWN, 1, 1)[2]], [(1, 2, 0, 2), 0])

    def test_not_nested(self):
        house = (3, (1, 1))
        known = ((2, 0, 1), ((0, 0, 1, 1), (0, 1, 1, 2)))
        self.fails(NotNested, {}, back_state, house, known)
        self.check(house, known)
        # The first and the last one alone would be nested.
        house = (4, (1, 1, 1))
        known = ((2, 0, 1, 3), ((0, 0, 0, 1, 1), (0, 1, 1, 1, 2), (0, 1, 1, 2, 3)))
        self.fails(NotNested, {}, back_state, house, known)
        self.check(house, known)

    def test_small_houses(self):
        for house, known, _ in small_knowledges():
            self.check(house, known)

    def test_large_houses(self):
        dice = random.Random(22)
        found = random_knowledges(dice, 15)
        for house, known in found:
            self.check(house, known)
        nested = [nested_like(words) for _, (_, words) in found]
        self.assertIn(True, nested)
        self.assertIn(False, nested)

    def test_behind_logs(self):
        dice = random.Random(23)
        for house, known in known_behind_logs(dice, 4):
            self.check(house, known)

    def test_at_first(self):
        dice = random.Random(24)
        for house in BIG:
            for start, _ in big_starts(dice, house):
                known = first_knowledge(house, start)
                ahead = exact(known)
                self.check(house, known)
                self.assertEqual(exact(known), ahead)
                if start is not None:
                    self.same([front_state(house, known), back_state(house, known)], [start, start])


if __name__ == "__main__":
    unittest.main()
