"""Point [27]: reasons, with the guarantee [7]."""

import random
import unittest

from floorkeepers.errors import CannotBe
from floorkeepers.leading import first_knowledge
from floorkeepers.reasons import is_reason_against, reason_against, reason_not, reason_within
from tests.helper import (BIG, Case, Rules, all_behind, big_starts, entries_of, first_states, number_changes,
                          odd_values, part_changes, random_run, some_log, starts_of, states_by_counting)

HOUSE, EMPTY = (4, (1, 1)), (2, 2, 2, 2)
LOG = (("ask", 0, 2), ("ask", 1, 2), ("ask", 2, 2))
BAD = LOG + (("ask", 2, 1),)
HOUSES = [(3, (1, 1)), (3, (2,)), (4, (1, 2)), (3, (1, 1, 1)), (2, (1, 1, 1, 1)), (4, (2, 1)), (2, (3, 1)), (5, (1, 1)),
          (1, (2,)), (4, (1,))]


def rules_of(house, start, log):
    return Rules(house, start, first_knowledge(house, start), log)


def too_much(rules, claim):
    return claim[3] > claim[2] or claim[3] > rules.sizes[claim[0]][claim[1]]


def states_behind(house, start, log):
    states = first_states(house, start)
    for entry in log:
        states = all_behind(house, states, entry)
    return states


def shortest(rules, enough):
    """How many claims a row has at least the last one of which is at a place where enough(place, least) holds."""
    for many, best in enumerate(rules.rounds()):
        if any(enough(place, best[place]) for place in best):
            return many + 1
    return None


def cannot_be(dice, house, start, long):
    """A log the last entry of which is the first one that cannot be."""
    while True:
        log, states = some_log(dice, house, first_states(house, start), dice.randrange(long))
        bad = [entry for entry in entries_of(house) if not all_behind(house, states, entry)]
        if bad:
            return log + (dice.choice(bad),)


class TestAgainst(Case):

    def check(self, house, start, log):
        """What is told of a log that cannot be."""
        rules = rules_of(house, start, log)
        row = reason_against(house, start, log)
        self.assertTrue(rules.is_row(row), (house, start, log, row))
        self.assertTrue(too_much(rules, row[-1]), (house, start, log, row))
        self.same(is_reason_against(house, start, log, row), True, house, start, log, row)
        return rules, row

    def check_shortest(self, house, start, log):
        rules, row = self.check(house, start, log)
        self.assertEqual(len(row), shortest(rules, lambda place, least: least > rules.most(place)),
                         (house, start, log, row))

    def test_by_hand(self):
        self.same([reason_against(HOUSE, EMPTY, LOG), reason_against(HOUSE, EMPTY, BAD)],
                  [None, ((6, 0, 1, 1), (7, 0, 0, 1))])
        self.same([reason_against(HOUSE, EMPTY, ()), reason_against((0, (1,)), (), ())], [None, None])
        # A size below 0.
        row = reason_against(HOUSE, EMPTY, (("ask", 0, 0),))
        self.assertEqual(len(row), 1)
        self.check_shortest(HOUSE, EMPTY, (("ask", 0, 0),))
        # Once more behind an entry that cannot be.
        self.check_shortest(HOUSE, EMPTY, BAD + BAD)

    def test_logs_that_can_be(self):
        dice = random.Random(27)
        for house in HOUSES:
            for start in [dice.choice(starts_of(house)), starts_of(house)[-1]]:
                log, _ = some_log(dice, house, first_states(house, start), 20)
                for at in range(0, 21, 4):
                    self.same(reason_against(house, start, log[:at]), None, house, start, log)

    def test_none_is_shorter(self):
        dice = random.Random(28)
        for house in HOUSES * 3:
            for start in [dice.choice(starts_of(house)), starts_of(house)[-1]]:
                self.check_shortest(house, start, cannot_be(dice, house, start, 8))

    def test_any_entries(self):
        dice = random.Random(29)
        for house in HOUSES * 2:
            start = dice.choice(starts_of(house))
            log = tuple(dice.choice(entries_of(house)) for _ in range(6))
            if states_behind(house, start, log):
                self.same(reason_against(house, start, log), None, house, start, log)
            else:
                self.check_shortest(house, start, log)

    def test_long_logs(self):
        dice = random.Random(30)
        for house in [(3, (1, 1)), (4, (1, 2)), (6, (2,)), (4, (1, 1, 1))]:
            for start in [dice.choice(states_by_counting(house)), starts_of(house)[-1]]:
                for _ in range(4):
                    self.check_shortest(house, start, cannot_be(dice, house, start, 20))

    def test_large_houses(self):
        dice = random.Random(31)
        told = 0
        for house in BIG:
            for start, state in big_starts(dice, house):
                log = random_run(dice, house, state, 19)[1]
                for entry in dice.sample(entries_of(house), 5):
                    if reason_against(house, start, log + (entry,)) is not None:
                        self.check(house, start, log + (entry,))
                        told += 1
        self.assertGreater(told, 20)

    def test_the_same_again(self):
        for _ in range(2):
            self.same(reason_against(HOUSE, EMPTY, BAD + LOG), reason_against(HOUSE, EMPTY, BAD + LOG))


class TestIsReason(Case):

    def test_by_hand(self):
        for row, want in [(((6, 0, 1, 1), (7, 0, 0, 1)), True), (((6, 0, 1, 1),), False), ((), False), (None, False),
                          (((7, 0, 0, 1),), False), (((6, 0, 1, 1), (7, 0, 0, True)), False),
                          (((6, 0, 1, 1), (7, 0, 0, 1), (8, 0, 1, 1)), False),
                          (((6, 0, 1, 1), (7, 0, 0, 1), (8, 0, 1, 2)), False),
                          (((6, 0, 1, 1), (7, 0, 0, 0)), False), ([(6, 0, 1, 1), (7, 0, 0, 1)], False),
                          (((6, 0, 1, 1), (7, 0, 0, 1), (7, 0, 1, 1)), False),
                          (((6, 0, 1, 1), (7, 0, 0, 1), (7, 1, 0, 1)), True)]:
            self.same(is_reason_against(HOUSE, EMPTY, BAD, row), want, row)

    def test_more_than_the_size_and_more_than_the_count(self):
        # Behind the log the size of floor 0 is -1: none is more than this, and 0 of 0 things are no more than 0.
        log = (("strike", 0, 0),)
        for row, want in [(((2, 0, 0, 0),), True), (((2, 0, 0, -1),), False), (((0, 0, 0, 0),), False),
                          (((2, 0, 3, 0),), True), (((2, 0, 3, -1),), False)]:
            self.same(is_reason_against(HOUSE, EMPTY, log, row), want, row)

    def test_one_item_otherwise(self):
        dice = random.Random(32)
        told = [0, 0]
        for house in HOUSES * 2:
            start = dice.choice(starts_of(house))
            log = cannot_be(dice, house, start, 5)
            rules = rules_of(house, start, log)
            row = reason_against(house, start, log)
            for other in part_changes(row) + number_changes(row, 7) + [row[:at] for at in range(len(row))]:
                want = rules.is_row(other) and too_much(rules, other[-1])
                told[want] += 1
                self.same(is_reason_against(house, start, log, other), want, house, start, log, other)
        self.assertGreater(min(told), 5)

    def test_any_values(self):
        for thing in odd_values():
            for value in [thing, (thing,), ((6, 0, 1, 1), thing), ((6, 0, 1, 1), (7, 0, 0, thing)), [thing]]:
                self.same(is_reason_against(HOUSE, EMPTY, BAD, value), False, value)


class TestSure(Case):

    def check(self, house, start, log, states, rows=None):
        """Both reasons for each thing and floor; rows are the shortest ones, if these are asked for, too."""
        rules = rules_of(house, start, log)
        rounds = list(rules.rounds()) if rows else []
        end, order = 2 * len(log), rules.orders[-1]
        for x in range(house[0]):
            e = order.index(x)
            for floor in range(len(house[1])):
                within = [state[x] <= floor for state in states]
                self.check_row(rules, rounds, reason_within(house, start, log, x, floor), all(within),
                               (end, floor, e + 1, e + 1), (house, start, log, x, floor))
                self.check_row(rules, rounds, reason_not(house, start, log, x, floor), not any(within),
                               (end, floor, e, rules.sizes[-1][floor]), (house, start, log, x, floor))

    def check_row(self, rules, rounds, row, sure, last, about):
        if not sure:
            self.same(row, None, about)
            return
        self.assertTrue(rules.is_row(row), (about, row))
        self.same(row[-1], last, about, row)
        if rounds:
            self.assertEqual(len(row), min(many + 1 for many, best in enumerate(rounds) if best[last[:3]] >= last[3]),
                             (about, row))

    def test_by_hand(self):
        self.same([reason_within(HOUSE, EMPTY, LOG, 2, 0), reason_not(HOUSE, EMPTY, LOG, 1, 0),
                   reason_not(HOUSE, EMPTY, LOG, 1, 1), reason_within(HOUSE, EMPTY, LOG, 0, 1)],
                  [((6, 0, 1, 1),), ((6, 0, 1, 1),), None, None])
        self.same([reason_within((1, (1,)), (0,), (), 0, 0), reason_not((1, (1,)), (1,), (), 0, 0),
                   reason_within((1, (1,)), (1,), (), 0, 0), reason_not((1, (1,)), (0,), (), 0, 0)],
                  [((0, 0, 1, 1),), ((0, 0, 0, 0),), None, None])
        self.same(reason_within(HOUSE, EMPTY, LOG, 2, 1), ((6, 1, 1, 1),))

    def test_from_more_things_to_fewer(self):
        # 0 is OUT, so 3, 2 and 1 are within floor 0; this tells of 3 and 2 as well, and nothing else does.
        house, start = (5, (3,)), (1, 1, 1, 1, 1)
        log = tuple(("ask", x, 1) for x in range(4)) + (("strike", 0, 1),)
        states = states_behind(house, start, log)
        self.check(house, start, log, states, True)
        rows = [reason_within(house, start, log, x, 0) for x in (1, 2)]
        self.same([row[-1] for row in rows], [(10, 0, 3, 3), (10, 0, 2, 2)])
        self.same(len(rows[1]), len(rows[0]) + 1)

    def test_logs_that_cannot_be(self):
        for log, index in [(BAD, 3), (BAD + LOG, 3), ((("ask", 0, 0),), 0), (LOG[:1] + (("strike", 1, 0),) * 3, 1)]:
            for x in range(4):
                for floor in range(2):
                    self.fails(CannotBe, {"index": index}, reason_within, HOUSE, EMPTY, log, x, floor)
                    self.fails(CannotBe, {"index": index}, reason_not, HOUSE, EMPTY, log, x, floor)

    def test_none_is_shorter(self):
        dice = random.Random(33)
        for house in HOUSES:
            for start in [dice.choice(starts_of(house)), starts_of(house)[-1], states_by_counting(house)[-1]]:
                for long in (1, 4, 7):
                    log, states = some_log(dice, house, first_states(house, start), long)
                    self.check(house, start, log, states, True)

    def test_long_logs(self):
        dice = random.Random(34)
        for house in [(3, (1, 1)), (4, (1, 2)), (5, (2, 1)), (5, (3,))]:
            for start in [dice.choice(states_by_counting(house)), None]:
                log, states = some_log(dice, house, first_states(house, start), 20)
                self.check(house, start, log, states, True)
        for house in [(5, (1, 1, 1)), (6, (2,)), (4, (1, 1, 1, 1)), (5, (2, 2)), (2, (2, 2))]:
            for start in [dice.choice(states_by_counting(house)), starts_of(house)[-1]]:
                log, states = some_log(dice, house, first_states(house, start), 20)
                self.check(house, start, log, states)


if __name__ == "__main__":
    unittest.main()
