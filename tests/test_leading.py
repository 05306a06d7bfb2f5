"""Point [20]: leading, with the definitions [2] and the guarantee [5]."""

import itertools
import random
import unittest

from floorkeepers.errors import CannotBe
from floorkeepers.forms import is_knowledge
from floorkeepers.leading import can_be, first_knowledge, knowledge_behind, led, led_by, words_through
from tests.helper import (BIG, Case, SMALL, TINY, all_behind, big_starts, counted, entries_of, first_states, fitting,
                          least_counts, order_behind, random_run, small_knowledges, some_log, starts_of,
                          states_by_counting)

HOUSE, EMPTY = (4, (1, 1)), (2, 2, 2, 2)
LOG = (("ask", 0, 2), ("ask", 1, 2), ("ask", 2, 2))
LONG = [(5, (1, 2)), (6, (2, 1, 1)), (5, (1, 1, 1, 1)), (4, (3,)), (6, (2,)), (3, (2, 2)), (4, (5, 1)), (7, (1, 1)),
        (2, (1, 1, 1)), (6, (3, 2)), (0, (2, 1))]


class TestFirst(Case):

    def test_by_hand(self):
        self.same(first_knowledge(HOUSE, EMPTY), ((0, 1, 2, 3), ((0,) * 5, (0,) * 5)))
        self.same(first_knowledge((4, (1, 2)), (1, 0, 2, 1)), ((1, 0, 3, 2), ((0, 1, 1, 1, 1), (0, 1, 2, 3, 3))))
        self.same(first_knowledge((3, (1, 1)), None), ((0, 1, 2), ((0, 0, 0, 1), (0, 0, 1, 2))))
        self.same(first_knowledge((2, (1, 1)), None), ((0, 1), ((0, 0, 1), (0, 1, 2))))
        self.same(first_knowledge((0, (2, 3)), ()), ((), ((0,), (0,))))
        self.same(first_knowledge((2, (3, 1)), (0, 0)), ((0, 1), ((0, 1, 2), (0, 1, 2))))
        self.same(first_knowledge((5, (1, 2, 1)), (3, 1, 2, 1, 3)),
                  ((1, 3, 2, 0, 4), ((0,) * 6, (0, 1, 2, 2, 2, 2), (0, 1, 2, 3, 3, 3))))

    def test_all_starts_of_small_houses(self):
        for house in SMALL:
            for start in starts_of(house):
                known = first_knowledge(house, start)
                states = first_states(house, start)
                order = range(house[0]) if start is None else sorted(range(house[0]), key=lambda x: (start[x], x))
                self.same(known, (tuple(order), least_counts(known[0], states, len(house[1]))), house, start)
                self.assertTrue(is_knowledge(house, known))
                self.assertEqual(fitting(house, *known), states)

    def test_large_houses(self):
        self.same(first_knowledge((16, (3, 3, 3, 3)), None),
                  (tuple(range(16)), tuple(tuple(max(0, size + d - 16) for d in range(17)) for size in (3, 6, 9, 12))))
        start = (4, 0, 1, 2, 3, 4, 0, 1, 2, 3, 4, 0, 1, 2, 3, 4)
        self.same(first_knowledge((16, (3, 3, 3, 3)), start),
                  ((1, 6, 11, 2, 7, 12, 3, 8, 13, 4, 9, 14, 0, 5, 10, 15),
                   tuple(tuple(min(d, size) for d in range(17)) for size in (3, 6, 9, 12))))


class TestLed(Case):

    def test_by_hand(self):
        first = ((0, 1, 2, 3), ((0,) * 5, (0,) * 5))
        second = ((0, 1, 2, 3), ((0, 1, 1, 1, 1), (0, 1, 1, 1, 1)))
        third = ((1, 0, 2, 3), ((0, 1, 1, 1, 1), (0, 1, 2, 2, 2)))
        last = ((2, 1, 0, 3), ((0, 1, 1, 1, 1), (0, 1, 1, 2, 2)))
        self.same(led(HOUSE, first, LOG[0]), second)
        self.same(led(HOUSE, second, LOG[1]), third)
        self.same(led(HOUSE, third, LOG[2]), last)
        self.same(led(HOUSE, last, ("strike", 0, 1)), ((2, 1, 3, 0), ((0, 1, 1, 1, 1), (0, 1, 1, 1, 1))))
        self.same(led(HOUSE, last, ("strike", 0, 2)), ((2, 1, 3, 0), ((0, 1, 1, 1, 1), (0, 1, 2, 2, 2))))
        self.same(led(HOUSE, last, ("strike", 2, 0)), ((1, 0, 3, 2), ((0,) * 5, (0, 0, 1, 1, 1))))
        self.same(led(HOUSE, last, ("ask", 2, 0)), last)
        self.same(led(HOUSE, last, ("ask", 1, 1)), ((1, 2, 0, 3), ((0, 1, 1, 1, 1), (0, 1, 2, 2, 2))))

    def test_filled_up_floors_alone_put_down(self):
        # Floor 0 is filled up and floor 1 is not: two are within floor 0 still, one more within floor 1.
        house = (5, (2, 2))
        known = first_knowledge(house, (0, 0, 1, 2, 2))
        self.same(led(house, known, ("ask", 4, 2)), ((4, 0, 1, 2, 3), ((0, 1, 1, 2, 2, 2), (0, 1, 2, 3, 4, 4))))
        self.same(led(house, known, ("ask", 2, 1)), ((2, 0, 1, 3, 4), ((0, 1, 1, 2, 2, 2), (0, 1, 2, 3, 3, 3))))
        self.same(led(house, known, ("ask", 1, 0)), ((1, 0, 2, 3, 4), ((0, 1, 2, 2, 2, 2), (0, 1, 2, 3, 3, 3))))
        known = first_knowledge(house, (0, 1, 1, 2, 2))
        self.same(led(house, known, ("ask", 2, 1)), ((2, 0, 1, 3, 4), ((0, 1, 2, 2, 2, 2), (0, 1, 2, 3, 3, 3))))
        known = first_knowledge(house, (0, 0, 1, 1, 2))
        self.same(led(house, known, ("ask", 4, 2)), ((4, 0, 1, 2, 3), ((0, 1, 1, 2, 2, 2), (0, 1, 1, 2, 3, 4))))

    def test_all_tight_words_of_small_houses(self):
        # Any tight words, not only those behind logs: what is led has just the states behind, and the least words.
        for house, known, states in small_knowledges():
            for entry in entries_of(house):
                behind = all_behind(house, states, entry)
                if not behind:
                    self.fails(CannotBe, {"index": 0}, led, house, known, entry)
                    continue
                order = order_behind(known[0], entry)
                got = led(house, known, entry)
                self.same(got, (order, least_counts(order, behind, len(house[1]))), house, known, entry)
                self.assertEqual([state for state in states_by_counting(house) if state in behind],
                                 fitting(house, *got))

    def test_entries_that_cannot_be(self):
        known = knowledge_behind(HOUSE, EMPTY, LOG)
        for entry in [("ask", 2, 1), ("ask", 2, 2), ("strike", 2, 1), ("ask", 3, 0), ("ask", 3, 1), ("strike", 3, 1),
                      ("ask", 0, 0), ("ask", 1, 0), ("strike", 1, 0)]:
            self.fails(CannotBe, {"index": 0}, led, HOUSE, known, entry)
        # No thing stands on floor 0, on floor 1, or OUT.
        self.fails(CannotBe, {"index": 0}, led, HOUSE, first_knowledge(HOUSE, (1, 2, 2, 2)), ("ask", 0, 0))
        self.fails(CannotBe, {"index": 0}, led, HOUSE, first_knowledge(HOUSE, (0, 2, 2, 2)), ("ask", 0, 1))
        self.fails(CannotBe, {"index": 0}, led, (2, (1, 1)), first_knowledge((2, (1, 1)), None), ("strike", 1, 2))
        self.fails(CannotBe, {"index": 0}, led, HOUSE, first_knowledge(HOUSE, EMPTY), ("strike", 0, 0))


class TestLogs(Case):

    def check(self, house, start, log, states):
        """All that is told of a log, states being those behind its entries till there are none."""
        knowns = [known for known in words_through(house, start, log)]
        floors = len(house[1])
        self.assertEqual(len(knowns), len([lot for lot in states if lot]), (house, start, log))
        order = knowns[0][0]
        for at, known in enumerate(knowns):
            order = order_behind(order, log[at - 1]) if at else order
            self.same(known, (order, least_counts(order, states[at], floors)), house, start, log, at)
        self.same(can_be(house, start, log), bool(states[-1]), house, start, log)
        if states[-1]:
            self.same(knowledge_behind(house, start, log), knowns[-1], house, start, log)
            self.same(led_by(house, knowns[0], log), knowns[-1], house, start, log)
            self.assertEqual(fitting(house, *knowns[-1]), states[-1])
        else:
            self.fails(CannotBe, {"index": len(knowns) - 1}, knowledge_behind, house, start, log)
            self.fails(CannotBe, {"index": len(knowns) - 1}, led_by, house, knowns[0], log)

    def test_all_short_logs(self):
        for house in TINY:
            long = 3 if house[0] < 3 and len(house[1]) < 3 else 2
            entries = entries_of(house)
            for start in starts_of(house)[-6:]:
                for log in itertools.product(entries, repeat=long if entries else 0):
                    states = [first_states(house, start)]
                    for entry in log:
                        states.append(all_behind(house, states[-1], entry))
                    self.check(house, start, log, states)

    def test_long_logs(self):
        dice = random.Random(20)
        for house in LONG * 2:
            for start in [dice.choice(starts_of(house)), starts_of(house)[-1], (len(house[1]),) * house[0]]:
                log, _ = some_log(dice, house, first_states(house, start), 60)
                states = [first_states(house, start)]
                for entry in log:
                    states.append(all_behind(house, states[-1], entry))
                self.check(house, start, log, states)

    def test_logs_that_cannot_be(self):
        dice = random.Random(21)
        for house in [house for house in LONG if house[0]] * 3:
            start = dice.choice(starts_of(house))
            log, _ = some_log(dice, house, first_states(house, start), dice.randrange(30))
            # Behind the first one that cannot be the entries are not asked.
            log += tuple(dice.choice(entries_of(house)) for _ in range(12))
            states = [first_states(house, start)]
            for entry in log:
                states.append(all_behind(house, states[-1], entry))
            self.check(house, start, log, states)

    def test_index_of_the_first_one(self):
        bad = ("ask", 2, 1)
        self.same(can_be(HOUSE, EMPTY, LOG + (bad,)), False)
        self.fails(CannotBe, {"index": 3}, knowledge_behind, HOUSE, EMPTY, LOG + (bad,))
        self.fails(CannotBe, {"index": 3}, knowledge_behind, HOUSE, EMPTY, LOG + (bad, bad) + LOG)
        self.fails(CannotBe, {"index": 0}, knowledge_behind, HOUSE, EMPTY, (bad,) + LOG)
        self.fails(CannotBe, {"index": 1}, led_by, HOUSE, knowledge_behind(HOUSE, EMPTY, LOG), (LOG[2][:2] + (0,), bad))
        self.fails(CannotBe, {"index": 0}, led_by, HOUSE, knowledge_behind(HOUSE, EMPTY, LOG), (bad, bad))
        self.same(len(words_through(HOUSE, EMPTY, LOG + (bad,) + LOG)), 4)
        self.same(words_through(HOUSE, EMPTY, (bad,)), [first_knowledge(HOUSE, EMPTY)])

    def test_no_entries(self):
        for house, start in [(HOUSE, EMPTY), (HOUSE, None), ((0, (1, 2)), ()), ((3, (4,)), (0, 0, 0))]:
            first = first_knowledge(house, start)
            self.same(words_through(house, start, ()), [first])
            self.same([knowledge_behind(house, start, ()), led_by(house, first, ()), can_be(house, start, ())],
                      [first, first, True])

    def test_in_two_parts(self):
        dice = random.Random(22)
        for house in BIG:
            for start, state in big_starts(dice, house):
                log = random_run(dice, house, state, 60)[1]
                behind = knowledge_behind(house, start, log)
                knowns = words_through(house, start, log)
                self.same(knowns[-1], behind, house, start, log)
                for at in range(0, 61, 13):
                    self.same(led_by(house, knowledge_behind(house, start, log[:at]), log[at:]), behind, house, log)
                    self.same(knowns[at], knowledge_behind(house, start, log[:at]), house, log)

    def test_what_happened_fits(self):
        dice = random.Random(23)
        for house in BIG:
            for start, state in big_starts(dice, house):
                _, log, state = random_run(dice, house, state, 60)
                self.same(can_be(house, start, log), True, house, start, log)
                order, words = knowledge_behind(house, start, log)
                self.assertTrue(is_knowledge(house, (order, words)))
                self.assertTrue(counted(order, words, state))
                self.assertEqual([word[-1] for word in words],
                                 [sum(at <= floor for at in state) for floor in range(len(house[1]))])
                asked = [entry[1] for entry in log if entry[0] == "ask"]
                if log and log[-1][0] == "ask":
                    self.assertEqual(order[0], asked[-1])

    def test_asked_again(self):
        self.twice(words_through, HOUSE, EMPTY, LOG)
        self.twice(words_through, HOUSE, None, (("ask", 0, 0), ("ask", 1, 0)))


if __name__ == "__main__":
    unittest.main()
