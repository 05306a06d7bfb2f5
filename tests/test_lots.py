"""Point [23]: several things at once."""

import itertools
import random
import unittest

from floorkeepers.leading import first_knowledge
from floorkeepers.lots import least_within, most_within, pair_floors, state_for
from tests.helper import (BIG, Case, exact, fits_like, fitting_some, known_behind_logs, random_knowledges,
                          small_knowledges)

HOUSE, KNOWN = (4, (1, 1)), ((2, 1, 0, 3), ((0, 1, 1, 1, 1), (0, 1, 1, 2, 2)))


def wanted_ones(dice, many, out, most):
    """Some dicts from things to floors, or OUT, with their keys in any order."""
    found = [{}]
    for _ in range(most):
        things = dice.sample(range(many), dice.randrange(many + 1))
        found.append({x: dice.choice([dice.randrange(out + 1), out]) for x in things})
    return found


def lots_of(many):
    """All lots of so many things."""
    return [lot for count in range(many + 1) for lot in itertools.combinations(range(many), count)]


class TestStateFor(Case):

    def check(self, house, known, wanted, states):
        """What is told of wanted places, states being those that fit."""
        ahead = exact((known, list(wanted.items())))
        got = state_for(house, known, wanted)
        self.assertEqual(exact((known, list(wanted.items()))), ahead)
        if not any(all(state[x] == wanted[x] for x in wanted) for state in states):
            self.same(got, None, house, known, wanted)
            return
        self.assertIsInstance(got, tuple)
        self.assertIn(got, states)
        self.check_others(house, known, wanted, got)

    def check_others(self, house, known, wanted, got):
        """The others within each floor are the first other ones of the order."""
        self.assertTrue(fits_like(known, got), (house, known, wanted, got))
        self.assertTrue(all(got[x] == wanted[x] for x in wanted), (house, known, wanted, got))
        others = [x for x in known[0] if x not in wanted]
        for floor in range(len(house[1])):
            inside = [got[x] <= floor for x in others]
            self.assertEqual(inside, sorted(inside, reverse=True), (house, known, wanted, got))

    def test_by_hand(self):
        for wanted, want in [({0: 1}, (1, 2, 0, 2)), ({}, (2, 1, 0, 2)), ({0: 1, 1: 1}, None), ({3: 1}, None),
                             ({2: 0}, (2, 1, 0, 2)), ({2: 1}, None), ({0: 2}, (2, 1, 0, 2)), ({1: 2}, (1, 2, 0, 2)),
                             ({0: 2, 1: 2}, None), ({3: 2, 2: 0, 1: 2, 0: 1}, (1, 2, 0, 2)), ({1: 0}, None),
                             ({0: 1, 1: 2, 2: 0, 3: 1}, None)]:
            self.same(state_for(HOUSE, KNOWN, wanted), want, wanted)
        self.same(state_for((0, (1, 1)), ((), ((0,), (0,))), {}), ())

    def test_no_room(self):
        house = (4, (1, 2))
        known = first_knowledge(house, None)
        self.same(state_for(house, known, {0: 0, 1: 0}), None)
        self.same(state_for(house, known, {0: 2, 1: 2}), None)
        self.same(state_for(house, known, {3: 1, 1: 1}), (0, 1, 2, 1))
        self.same(state_for(house, known, {3: 1, 1: 1, 0: 2}), (2, 1, 0, 1))
        self.same(state_for(house, known, {0: 1, 1: 1, 2: 1}), None)
        # Fewer things stand on floor 1 than it has rooms.
        known = first_knowledge(house, (0, 1, 2, 2))
        self.same([state_for(house, known, {1: 1}), state_for(house, known, {1: 1, 2: 1})], [(0, 1, 2, 2), None])

    def test_small_houses(self):
        dice = random.Random(23)
        for house, known, states in small_knowledges():
            out = len(house[1])
            for wanted in wanted_ones(dice, house[0], out, 12):
                self.check(house, known, wanted, states)
            for state in states[::len(states) // 3 + 1]:
                self.check(house, known, dict(reversed(list(enumerate(state)))), states)

    def test_all_wanted_ones(self):
        found = [some for some in small_knowledges() if some[0] in [(3, (1, 1)), (2, (1, 1, 1)), (3, (2,)), (0, (1,))]]
        for house, known, states in found:
            places = list(range(len(house[1]) + 1)) + [None]
            for row in itertools.product(places, repeat=house[0]):
                wanted = {x: at for x, at in enumerate(row) if at is not None}
                self.check(house, known, wanted, states)
                self.check(house, known, {x: wanted[x] for x in reversed(list(wanted))}, states)

    def test_large_houses(self):
        dice = random.Random(24)
        told = 0
        for house, known in random_knowledges(dice, 3) + known_behind_logs(dice, 1):
            wanteds = wanted_ones(dice, house[0], len(house[1]), 8)
            for state in fitting_some(dice, known, 6):
                things = dice.sample(range(house[0]), dice.randrange(house[0] + 1))
                wanteds.append({x: state[x] for x in things})
                self.assertIsNotNone(state_for(house, known, wanteds[-1]), (house, known, wanteds[-1]))
            for wanted in wanteds:
                got = state_for(house, known, wanted)
                if got is not None:
                    told += 1
                    self.check_others(house, known, wanted, got)
        self.assertGreater(told, 100)

    def test_some_of_a_thing_alone(self):
        # Where one thing is wanted, there is a state exactly on the floors on which some state has it.
        house = (16, (3, 3, 3, 3))
        known = first_knowledge(house, None)
        for x, floor in itertools.product(range(16), range(5)):
            self.check_others(house, known, {x: floor}, state_for(house, known, {x: floor}))


class TestPairs(Case):

    def test_by_hand(self):
        self.same([pair_floors(HOUSE, KNOWN, 0, 1), pair_floors(HOUSE, KNOWN, 2, 3), pair_floors(HOUSE, KNOWN, 3, 2)],
                  [[(1, 2), (2, 1)], [(0, 2)], [(2, 0)]])
        house = (2, (1, 1))
        self.same(pair_floors(house, first_knowledge(house, None), 0, 1), [(0, 1), (1, 0)])
        self.same(pair_floors(house, first_knowledge(house, (2, 2)), 0, 1), [(2, 2)])

    def test_small_houses(self):
        for house, known, states in small_knowledges():
            for one, other in itertools.permutations(range(house[0]), 2):
                want = sorted({(state[one], state[other]) for state in states})
                self.same(pair_floors(house, known, one, other), want, house, known, one, other)

    def test_large_houses(self):
        dice = random.Random(25)
        for house, known in random_knowledges(dice, 2) + known_behind_logs(dice, 1):
            one, other = dice.sample(range(house[0]), 2)
            found = pair_floors(house, known, one, other)
            self.assertEqual(found, sorted(set(found)))
            self.same(pair_floors(house, known, other, one), sorted((b, a) for a, b in found), house, known, one, other)
            for state in fitting_some(dice, known, 5):
                self.assertIn((state[one], state[other]), found)
            for a, b in found:
                self.assertTrue(fits_like(known, state_for(house, known, {other: b, one: a})))

    def test_asked_again(self):
        self.twice(pair_floors, HOUSE, KNOWN, 0, 1)


class TestNumbers(Case):

    def check(self, house, known, lot, floor, numbers):
        for call, want in [(least_within, min(numbers)), (most_within, max(numbers))]:
            number, state = call(house, known, lot, floor)
            self.same(number, want, call, house, known, lot, floor)
            self.assertTrue(fits_like(known, state), (call, house, known, lot, floor, state))
            self.same(sum(1 for x in lot if state[x] <= floor), number, call, house, known, lot, floor)

    def test_by_hand(self):
        self.same([least_within(HOUSE, KNOWN, (0, 2), 1), most_within(HOUSE, KNOWN, (0, 2), 1)],
                  [(1, (2, 1, 0, 2)), (2, (1, 2, 0, 2))])
        self.same([least_within(HOUSE, KNOWN, (), 0)[0], most_within(HOUSE, KNOWN, (), 1)[0]], [0, 0])
        self.same([least_within(HOUSE, KNOWN, (0, 1, 2, 3), 1)[0], most_within(HOUSE, KNOWN, (0, 1, 2, 3), 0)[0]],
                  [2, 1])
        self.same([least_within((0, (1,)), ((), ((0,),)), (), 0), most_within((0, (1,)), ((), ((0,),)), (), 0)],
                  [(0, ()), (0, ())])

    def test_small_houses(self):
        for house, known, states in small_knowledges():
            ahead = exact(known)
            for floor in range(len(house[1])):
                inside = [{x for x in range(house[0]) if state[x] <= floor} for state in states]
                for lot in lots_of(house[0]):
                    self.check(house, known, lot, floor, [len(have.intersection(lot)) for have in inside])
            self.assertEqual(exact(known), ahead)

    def numbers(self, known, lot, floor):
        """The numbers of things of a lot within a floor, by going along the order with all numbers there can be."""
        order, words = known
        word = words[floor]
        pairs = {(0, 0)}
        for d, x in enumerate(order):
            pairs |= {(count + 1, some + (x in lot)) for count, some in pairs if count < word[-1]}
            pairs = {(count, some) for count, some in pairs if count >= word[d + 1]}
        return [some for count, some in pairs if count == word[-1]]

    def test_large_houses(self):
        dice = random.Random(26)
        for house, known in random_knowledges(dice, 6) + known_behind_logs(dice, 2):
            for floor in range(len(house[1])):
                lots = [(), tuple(range(house[0])), tuple(sorted(known[0][:house[0] // 2]))]
                lots += [tuple(sorted(dice.sample(range(house[0]), dice.randrange(house[0] + 1)))) for _ in range(4)]
                for lot in lots:
                    self.check(house, known, lot, floor, self.numbers(known, lot, floor))

    def test_at_first(self):
        for house in [house for house in BIG if house[0] >= sum(house[1])]:
            known = first_knowledge(house, None)
            for floor in range(len(house[1])):
                size = sum(house[1][:floor + 1])
                for count in (1, house[0] // 2, house[0] - 1):
                    lot = tuple(range(0, house[0]))[-count:]
                    self.check(house, known, lot, floor, [max(0, size - house[0] + count), min(count, size)])


if __name__ == "__main__":
    unittest.main()
