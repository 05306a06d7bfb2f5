"""Point [28]: blocks, with the guarantee [8]."""

import itertools
import random
import unittest

from floorkeepers.blocks import alike, blocks_of, joint, lies_in, normal_of
from floorkeepers.errors import CannotBe
from floorkeepers.forms import is_knowledge
from floorkeepers.leading import first_knowledge, led
from tests.helper import (BIG, Case, SMALL, all_tight, big_starts, counted_states, entries_of, exact, fits_like,
                          fitting, fitting_some, known_behind_logs, pairs_of_knowledges, random_knowledges, shuffled,
                          small_knowledges, swapped)

HOUSE, KNOWN = (4, (1, 1)), ((2, 1, 0, 3), ((0, 1, 1, 1, 1), (0, 1, 1, 2, 2)))
SHARP = ((2, 1, 0, 3), ((0, 1, 1, 1, 1), (0, 1, 2, 2, 2)))


def cuts_like(word):
    """All cuts of a word."""
    return [d for d in range(1, len(word) - 1) if word[d] == word[d - 1] + 1 and word[d + 1] == word[d]]


def blocks_like(known):
    """The blocks, thing by thing: each goes into the lot of the first cut behind it."""
    order, words = known
    found = []
    for word in words:
        lots = [([], word[d]) for d in cuts_like(word)]
        for place, x in enumerate(order):
            behind = [at for at, d in enumerate(cuts_like(word)) if d > place]
            if behind:
                lots[behind[0]][0].append(x)
        found.append(tuple((tuple(sorted(lot)), many) for lot, many in lots))
    return tuple(found)


def normal_like(known):
    """The knowledge in normal form: things sort by how many cuts are ahead of them, then by themselves."""
    order, words = known
    ends = {d for word in words for d in cuts_like(word)}
    keys = {x: (len([d for d in ends if d <= place]), x) for place, x in enumerate(order)}
    return (tuple(sorted(order, key=lambda x: keys[x])), words)


class TestBlocks(Case):

    def check(self, known):
        ahead = exact(known)
        self.same(blocks_of(known), blocks_like(known), known)
        self.same(normal_of(known), normal_like(known), known)
        self.assertEqual(exact(known), ahead)

    def test_by_hand(self):
        self.same(blocks_of(KNOWN), ((((2,), 1),), (((2,), 1), ((0, 1), 2))))
        self.same(blocks_of(SHARP), ((((2,), 1),), (((1, 2), 2),)))
        self.same(blocks_of(((), ((0,), (0,)))), ((), ()))
        self.same(blocks_of(((0,), ((0, 1),))), ((),))
        # Neither a word that never goes up, nor one that goes up at the end alone, has a cut.
        self.same(blocks_of(((1, 0, 2), ((0, 0, 0, 0), (0, 0, 0, 1), (0, 0, 1, 2)))), ((), (), ()))
        self.same(blocks_of(((3, 1, 0, 2), ((0, 1, 2, 2, 3),))), ((((1, 3), 2),),))
        self.same(blocks_of(((3, 1, 0, 2), ((0, 0, 1, 1, 1), (0, 1, 1, 2, 2)))),
                  ((((1, 3), 1),), (((3,), 1), ((0, 1), 2))))

    def test_normal_by_hand(self):
        self.same([normal_of(KNOWN), normal_of(((2, 0, 1, 3), KNOWN[1]))], [((2, 0, 1, 3), KNOWN[1])] * 2)
        self.same(normal_of(SHARP), SHARP)
        self.same(normal_of(((2, 3, 0, 1), ((0, 0, 0, 0, 1), (0, 0, 1, 1, 2)))),
                  ((2, 3, 0, 1), ((0, 0, 0, 0, 1), (0, 0, 1, 1, 2))))
        self.same(normal_of(((3, 2, 1, 0), ((0, 0, 0, 0, 1), (0, 0, 1, 1, 2)))),
                  ((2, 3, 0, 1), ((0, 0, 0, 0, 1), (0, 0, 1, 1, 2))))
        self.same(normal_of(((3, 2, 1, 0), ((0, 0, 0, 0, 1),))), ((0, 1, 2, 3), ((0, 0, 0, 0, 1),)))
        self.same(normal_of(((), ((0,),))), ((), ((0,),)))

    def test_small_houses(self):
        for house, known, states in small_knowledges():
            self.check(known)
            normal = normal_of(known)
            self.assertTrue(is_knowledge(house, normal))
            self.assertEqual(fitting(house, *normal), states)
            self.same(normal_of(normal), normal, house, known)
            self.same(alike(known, normal), True, house, known)

    def test_large_houses(self):
        dice = random.Random(28)
        for house, known in random_knowledges(dice, 6) + known_behind_logs(dice, 3):
            self.check(known)
            for state in fitting_some(dice, known, 4):
                self.assertTrue(fits_like(normal_of(known), state))
            self.assertEqual(counted_states(normal_of(known)), counted_states(known))

    def test_at_first(self):
        dice = random.Random(29)
        for house in BIG:
            for start, _ in big_starts(dice, house):
                self.check(first_knowledge(house, start))
            if house[0] > sum(house[1]):
                self.same(blocks_of(first_knowledge(house, None)), ((),) * len(house[1]))


class TestTwo(Case):

    def check(self, house, one, other):
        ahead = exact((one, other))
        first, second = fitting(house, *one), fitting(house, *other)
        self.same(alike(one, other), first == second, house, one, other)
        self.same(lies_in(house, one, other), set(first) <= set(second), house, one, other)
        self.same(lies_in(house, other, one), set(second) <= set(first), house, one, other)
        sizes = [word[-1] for word in one[1]] == [word[-1] for word in other[1]]
        self.assertEqual(alike(one, other), sizes and blocks_of(one) == blocks_of(other), (house, one, other))
        self.assertEqual(alike(one, other), normal_of(one) == normal_of(other), (house, one, other))
        if sizes and one[0] == other[0]:
            both = joint(house, one, other)
            self.assertTrue(is_knowledge(house, both), (house, one, other, both))
            self.same(both[0], one[0], house, one, other)
            self.assertEqual(fitting(house, *both), [state for state in first if state in second])
            self.assertTrue(fitting(house, *both))
            self.same(joint(house, other, one), both, house, one, other)
        self.assertEqual(exact((one, other)), ahead)

    def test_by_hand(self):
        self.same([alike(KNOWN, ((2, 0, 1, 3), KNOWN[1])), alike(KNOWN, ((2, 0, 3, 1), KNOWN[1])), alike(KNOWN, KNOWN)],
                  [True, False, True])
        self.same([lies_in(HOUSE, SHARP, KNOWN), lies_in(HOUSE, KNOWN, SHARP), lies_in(HOUSE, KNOWN, KNOWN)],
                  [True, False, True])
        self.same([joint(HOUSE, KNOWN, SHARP), joint(HOUSE, KNOWN, KNOWN)], [SHARP, KNOWN])
        nothing = ((), ((0,),))
        self.same([alike(nothing, nothing), lies_in((0, (1,)), nothing, nothing), joint((0, (1,)), nothing, nothing)],
                  [True, True, nothing])

    def test_other_sizes(self):
        # Neither has a cut, and yet no state fits both.
        house = (3, (3,))
        one, other = ((0, 1, 2), ((0, 0, 0, 0),)), ((0, 1, 2), ((0, 0, 0, 1),))
        self.same([blocks_of(one), blocks_of(other)], [((),), ((),)])
        self.same([alike(one, other), lies_in(house, one, other), lies_in(house, other, one)], [False] * 3)

    def test_joint_by_hand(self):
        house, order = (4, (2, 1)), (3, 0, 2, 1)
        one = (order, ((0, 0, 1, 1, 2), (0, 0, 1, 2, 3)))
        other = (order, ((0, 1, 1, 1, 2), (0, 1, 1, 2, 3)))
        self.same(joint(house, one, other), (order, ((0, 1, 1, 1, 2), (0, 1, 1, 2, 3))))
        other = (order, ((0, 0, 0, 1, 2), (0, 1, 1, 2, 3)))
        self.same(joint(house, one, other), (order, ((0, 0, 1, 1, 2), (0, 1, 1, 2, 3))))
        self.check(house, one, other)

    def test_small_houses(self):
        dice = random.Random(30)
        told = [0, 0, 0]
        for house in SMALL:
            for one, other in pairs_of_knowledges(dice, house, 40):
                self.check(house, one, other)
                told[0] += alike(one, other)
                told[1] += lies_in(house, one, other)
                told[2] += 1
        self.assertTrue(100 < told[0] < told[1] < told[2] - 500, told)

    def test_all_pairs(self):
        for house in [(3, (1, 1)), (3, (2,)), (2, (1, 1, 1)), (2, (1, 1, 1, 1)), (1, (1, 2)), (0, (1, 1))]:
            knowns = [(order, words) for words in all_tight(house)
                      for order in itertools.permutations(range(house[0]))]
            states = {known: fitting(house, *known) for known in knowns}
            for one, other in itertools.product(knowns[::len(knowns) // 40 + 1], knowns):
                self.same(alike(one, other), states[one] == states[other], house, one, other)
                self.same(lies_in(house, one, other), set(states[one]) <= set(states[other]), house, one, other)

    def test_exchanged(self):
        # Two things that no cut parts may be exchanged, any others may not.
        dice = random.Random(31)
        for house, known in random_knowledges(dice, 4) + known_behind_logs(dice, 2):
            cuts = {d for word in known[1] for d in cuts_like(word)}
            for _ in range(8):
                one, other = sorted([dice.randrange(house[0]), dice.randrange(house[0])])
                apart = any(one < d <= other for d in cuts)
                self.same(alike(known, swapped(known, one, other)), not apart, house, known, one, other)
                self.same(lies_in(house, known, swapped(known, one, other)), not apart, house, known, one, other)

    def test_large_houses(self):
        dice = random.Random(32)
        for house in BIG:
            for start, _ in big_starts(dice, house):
                known = first_knowledge(house, start)
                # What is known of a state lies in what is known of any, if sizes are the same.
                if start is None:
                    order = shuffled(dice, house[0])
                    sharp = (order, tuple(tuple(min(d, word[-1]) for d in range(len(word))) for word in known[1]))
                    self.same([lies_in(house, sharp, known), lies_in(house, known, sharp), alike(sharp, known)],
                              [True, counted_states(known) == 1] + [counted_states(known) == 1], house)
                    self.same(joint(house, (order, known[1]), sharp), sharp, house)
                else:
                    self.same(lies_in(house, known, known), True, house)

    def logs_of(self, house, known, long):
        """All logs of at most so many entries that can happen."""
        found = {()}
        rows = [((), known)]
        for _ in range(long):
            longer = []
            for log, now in rows:
                for entry in entries_of(house):
                    try:
                        longer.append((log + (entry,), led(house, now, entry)))
                    except CannotBe:
                        continue
            rows = longer
            found.update(log for log, _ in rows)
        return found

    def test_alike_ones_let_the_same_logs_happen(self):
        dice = random.Random(33)
        for house in [(3, (1, 1)), (3, (2,)), (2, (1, 1)), (3, (1,))]:
            for one, other in pairs_of_knowledges(dice, house, 6):
                if [word[-1] for word in one[1]] == [word[-1] for word in other[1]]:
                    long = one[1][-1][-1]
                    same = self.logs_of(house, one, long) == self.logs_of(house, other, long)
                    self.same(alike(one, other), same, house, one, other)


if __name__ == "__main__":
    unittest.main()
