"""Point [34]: known keepers, with the guarantee [10]."""

import random
import unittest

from floorkeepers.errors import CannotBe
from floorkeepers.floors import floors_of, may_be_within, surely_within
from floorkeepers.forms import is_knowledge
from floorkeepers.knownkeepers import is_known_run, known_behind, known_can_be, known_led, known_most
from floorkeepers.leading import can_be, first_knowledge, knowledge_behind
from floorkeepers.runs import last_use_run, log_of, ran
from tests.helper import (BIG, Case, SMALL, TINY, asks_by_keepers, entries_of, exact, fits_like, fitting, moves_of,
                          order_behind, random_run, some_state, states_by_counting)

HOUSE, EMPTY = (4, (1, 1)), (2, 2, 2, 2)
LOG = (("ask", 0, 2), ("ask", 1, 2), ("ask", 2, 2))


def order_first(state):
    return tuple(sorted(range(len(state)), key=lambda x: (state[x], x)))


def done_so(state, order, move, known):
    """Whether the keepers of the first known floors put down what stands last, order being that behind the move."""
    places = list(state)
    places[move[1]] = 0
    for floor, down in enumerate(move[2]):
        there = [x for x in order if places[x] == floor]
        if floor < known and down != there[-1]:
            return False
        places[down] = floor + 1
    return True


def known_ways(house, states, order, known, entry):
    """All (move, state behind) of an entry by known keepers, from any of these states; order is that ahead."""
    behind = order_behind(order, entry)
    return [(move, after) for state in states for move, after in moves_of(house, state, entry)
            if done_so(state, behind, move, known)]


def states_behind(house, state, known, log):
    """All states behind a log, and the order there, by all keepers that do so."""
    states, order = [state], order_first(state)
    for entry in log:
        states = sorted({after for _, after in known_ways(house, states, order, known, entry)})
        order = order_behind(order, entry)
    return states, order


def known_run(dice, house, state, known, long):
    """A run of keepers the first ones of which are known, with its log, and the state behind it."""
    run, log, order = [], [], order_first(state)
    for _ in range(long if house[0] else 0):
        entry = ("strike" if dice.randrange(5) == 0 else "ask", dice.randrange(house[0]), 0)
        entry = entry[:2] + (state[entry[1]],)
        move, state = dice.choice(known_ways(house, [state], order, known, entry))
        order = order_behind(order, entry)
        run.append(move)
        log.append(entry)
    return tuple(run), tuple(log), state


class TestKnownLed(Case):

    def check(self, house, knowledge, states, order):
        """The knowledge is that of just these states, and [6] holds for it."""
        self.assertTrue(is_knowledge(house, knowledge), (house, knowledge))
        self.assertEqual(knowledge[0], order)
        self.assertEqual(fitting(house, *knowledge), states, (house, knowledge))
        for x in range(house[0]):
            self.same(floors_of(house, knowledge, x), tuple(sorted({state[x] for state in states})))
            for floor in range(len(house[1])):
                within = [state[x] <= floor for state in states]
                self.same([surely_within(knowledge, x, floor), may_be_within(knowledge, x, floor)],
                          [all(within), any(within)])

    def test_by_hand(self):
        self.same(known_behind(HOUSE, EMPTY, 2, LOG), ((2, 1, 0, 3), ((0, 1, 1, 1, 1), (0, 1, 2, 2, 2))))
        self.same(known_behind(HOUSE, EMPTY, 0, LOG), ((2, 1, 0, 3), ((0, 1, 1, 1, 1), (0, 1, 1, 2, 2))))
        self.same(known_behind(HOUSE, EMPTY, 1, LOG), ((2, 1, 0, 3), ((0, 1, 1, 1, 1), (0, 1, 1, 2, 2))))
        self.same(known_led(HOUSE, known_behind(HOUSE, EMPTY, 2, LOG[:2]), 2, LOG[2]), known_behind(HOUSE, EMPTY, 2, LOG))
        self.same(known_behind((0, (1,)), (), 1, ()), ((), ((0,),)))
        # Known on floor 0 alone: what it puts down is known, not what floor 1 does with it.
        house, log = (4, (2, 1)), (("ask", 0, 2), ("ask", 1, 2), ("ask", 2, 2), ("ask", 3, 2))
        self.same([known_behind(house, EMPTY, known, log)[1] for known in (0, 1, 2)],
                  [((0, 1, 1, 1, 2), (0, 1, 1, 2, 3)), ((0, 1, 2, 2, 2), (0, 1, 2, 2, 3)),
                   ((0, 1, 2, 2, 2), (0, 1, 2, 3, 3))])

    def test_all_logs_of_small_houses(self):
        for house in [(2, (1,)), (2, (1, 1)), (3, (1, 1)), (3, (2,)), (3, (1, 1, 1))]:
            for state in states_by_counting(house)[::4]:
                for known in range(len(house[1]) + 1):
                    first = first_knowledge(house, state)
                    self.all_logs(house, first, known, [state], order_first(state), 3)

    def all_logs(self, house, knowledge, known, states, order, long):
        """Each entry is led to just the states to which keepers come, or cannot be, and so on behind it."""
        self.check(house, knowledge, states, order)
        for entry in entries_of(house) if long else []:
            behind = sorted({after for _, after in known_ways(house, states, order, known, entry)})
            if behind:
                led = known_led(house, knowledge, known, entry)
                self.all_logs(house, led, known, behind, order_behind(order, entry), long - 1)
            else:
                self.fails(CannotBe, {"index": 0}, known_led, house, knowledge, known, entry)

    def test_small_houses(self):
        dice = random.Random(34)
        for house in SMALL:
            for known in range(len(house[1]) + 1):
                for _ in range(3):
                    state = dice.choice(states_by_counting(house))
                    log = known_run(dice, house, state, known, 12)[1]
                    for at in range(0, len(log) + 1, 3):
                        states, order = states_behind(house, state, known, log[:at])
                        self.check(house, known_behind(house, state, known, log[:at]), states, order)

    def test_long_logs(self):
        dice = random.Random(35)
        for house in [(4, (1, 1)), (5, (1, 2)), (6, (2, 1)), (5, (1, 1, 1)), (7, (3, 2)), (6, (1, 1, 1, 1))]:
            for known in range(len(house[1]) + 1):
                state = some_state(dice, house)
                log = known_run(dice, house, state, known, 60)[1]
                states, order = states_behind(house, state, known, log)
                self.check(house, known_behind(house, state, known, log), states, order)

    def test_no_floor_known(self):
        dice = random.Random(36)
        for house in SMALL + BIG:
            state = some_state(dice, house)
            log = random_run(dice, house, state, 60)[1]
            self.same(known_behind(house, state, 0, log), knowledge_behind(house, state, log), house, state, log)
            self.same(known_can_be(house, state, 0, log), True, house, state, log)

    def test_all_floors_known(self):
        # One state is left, that of the run by last use.
        dice = random.Random(37)
        for house in SMALL + BIG:
            state = some_state(dice, house)
            row = tuple(dice.randrange(house[0]) for _ in range(60 if house[0] else 0))
            run = last_use_run(house, state, row)
            order, words = known_behind(house, state, len(house[1]), log_of(house, state, run))
            after = ran(house, state, run)
            self.assertTrue(fits_like((order, words), after))
            for floor, word in enumerate(words):
                self.same([x for d, x in enumerate(order) if word[d + 1] > word[d]],
                          [x for x in order if after[x] <= floor], house, state, row)
                self.same(word, tuple(min(d, word[-1]) for d in range(house[0] + 1)), house, state, row)

    def test_logs_that_cannot_be(self):
        for known in (0, 1, 2):
            self.fails(CannotBe, {"index": 0}, known_behind, HOUSE, EMPTY, known, (("ask", 0, 1),) + LOG)
            self.fails(CannotBe, {"index": 3}, known_behind, HOUSE, EMPTY, known, LOG + (("strike", 2, 1),) + LOG)
        self.same(known_behind(HOUSE, EMPTY, 1, LOG + (("ask", 1, 1),))[0], (1, 2, 0, 3))
        self.fails(CannotBe, {"index": 3}, known_behind, HOUSE, EMPTY, 2, LOG + (("ask", 0, 1),))
        self.fails(CannotBe, {"index": 0}, known_led, HOUSE, known_behind(HOUSE, EMPTY, 2, LOG), 2, ("ask", 0, 1))

    def test_large_houses(self):
        dice = random.Random(38)
        for house in BIG:
            for known in range(len(house[1]) + 1):
                state = some_state(dice, house)
                run, log, after = known_run(dice, house, state, known, 60)
                knowledge = known_behind(house, state, known, log)
                self.assertTrue(is_knowledge(house, knowledge) and fits_like(knowledge, after))
                self.same([known_can_be(house, state, less, log) for less in range(known + 1)], [True] * (known + 1))
                self.same(is_known_run(house, state, known, run), True)
                self.assertGreaterEqual(known_most(house, state, log), known)

    def test_nothing_changes_and_the_same_again(self):
        knowledge = known_behind(HOUSE, EMPTY, 1, LOG[:2])
        given = (HOUSE, knowledge, 1, LOG[2])
        ahead = exact(given)
        self.same(known_led(*given), known_led(*given))
        self.assertEqual(exact(given), ahead)


class TestKnownCanBe(Case):

    def test_by_hand(self):
        self.same([known_most(HOUSE, EMPTY, LOG + (("ask", x, 1),)) for x in (0, 1, 2)], [1, 2, None])
        self.same([known_can_be(HOUSE, EMPTY, known, LOG + (("ask", 0, 1),)) for known in (0, 1, 2)], [True, True, False])
        self.same([known_can_be(HOUSE, EMPTY, 2, LOG), known_most(HOUSE, EMPTY, LOG), known_most(HOUSE, EMPTY, ())],
                  [True, 2, 2])
        self.same([known_most((0, (1, 2)), (), ()), known_most((1, (1, 1, 1, 1)), (4,), ())], [2, 4])
        # Not at all: neither at the beginning, nor behind what can be.
        self.same([known_most(HOUSE, EMPTY, (("ask", 0, 0),)), known_most(HOUSE, EMPTY, LOG + LOG[2:])], [None, None])
        # By the first floor's keeper 2 would be there still.
        house, log = (4, (2, 1)), (("ask", 0, 2), ("ask", 1, 2), ("ask", 2, 2), ("ask", 1, 1))
        self.same(known_most(house, EMPTY, log), 0)

    def test_small_houses(self):
        dice = random.Random(39)
        told = {}
        for house in [some for some in TINY + SMALL if some[0]] * 3:
            state = dice.choice(states_by_counting(house))
            log = known_run(dice, house, state, dice.randrange(len(house[1]) + 1), 7)[1]
            for log in [log, log[:5] + (dice.choice(entries_of(house)),), log[1:]]:
                can = [states_behind(house, state, known, log)[0] != [] for known in range(len(house[1]) + 1)]
                self.assertEqual(can, sorted(can, reverse=True))
                self.same([known_can_be(house, state, known, log) for known in range(len(can))], can, house, state, log)
                most = sum(can) - 1 if can[0] else None
                self.same(known_most(house, state, log), most, house, state, log)
                self.same(can_be(house, state, log), can[0], house, state, log)
                told[most] = told.get(most, 0) + 1
                self.check_index(house, state, log, can)
        self.assertTrue(all(told.get(most, 0) >= 3 for most in (None, 0, 1, 2, 3)), told)

    def check_index(self, house, state, log, can):
        for known, some in enumerate(can):
            if not some:
                index = [states_behind(house, state, known, log[:at + 1])[0] for at in range(len(log))].index([])
                self.fails(CannotBe, {"index": index}, known_behind, house, state, known, log)


class TestIsKnownRun(Case):

    def test_by_hand(self):
        state = (1, 0, 2, 2)
        self.same([is_known_run(HOUSE, state, known, (("ask", 2, (1, 1)),)) for known in (0, 1, 2)], [True, True, False])
        self.same([is_known_run(HOUSE, state, known, (("ask", 2, (1, 0)),)) for known in (0, 1, 2)], [True, True, True])
        self.same([is_known_run(HOUSE, state, known, ()) for known in (0, 1, 2)], [True, True, True])
        # What is struck out, and asked for again, stands in front.
        house, empty = (4, (2, 1)), (2, 2, 2, 2)
        run = (("ask", 0, ()), ("ask", 1, ()), ("strike", 1, ()), ("ask", 1, ()), ("ask", 2, (0,)))
        self.same([is_known_run(house, empty, known, run) for known in (0, 1, 2)], [True, True, True])
        run = run[:4] + (("ask", 2, (1,)),)
        self.same([is_known_run(house, empty, known, run) for known in (0, 1, 2)], [True, False, False])

    def test_small_houses(self):
        dice = random.Random(40)
        told = [0, 0]
        for house in [some for some in SMALL if some[0]] * 8:
            state = dice.choice(states_by_counting(house))
            run = known_run(dice, house, state, dice.randrange(len(house[1]) + 1), 5)[0]
            for known in range(len(house[1]) + 1):
                want = self.like(house, state, known, run)
                told[want] += 1
                self.same(is_known_run(house, state, known, run), want, house, state, known, run)
        self.assertGreater(min(told), 30)

    def like(self, house, state, known, run):
        now, order = state, order_first(state)
        for move in run:
            order = order_behind(order, move)
            if not done_so(now, order, move, known):
                return False
            now = dict(moves_of(house, now, (move[0], move[1], now[move[1]])))[move]
        return True

    def test_runs_by_last_use(self):
        dice = random.Random(41)
        for house in BIG:
            state = some_state(dice, house)
            run = last_use_run(house, state, tuple(dice.randrange(house[0]) for _ in range(60)))
            for known in range(len(house[1]) + 1):
                self.same(is_known_run(house, state, known, run), True, house, state, known, run)
            self.other_keepers(dice, house, state, run)

    def other_keepers(self, dice, house, state, run):
        """The first floor whose keeper does otherwise at the end is the first one that must not be known."""
        after = ran(house, state, run)
        for x in [x for x in range(house[0]) if after[x] == len(house[1])]:
            right = last_use_run(house, state, tuple(move[1] for move in run) + (x,))[-1][2]
            for downs, _ in dice.sample(asks_by_keepers(house, after, x), 1):
                others = [floor for floor in range(len(downs)) if downs[floor] != right[floor]]
                most = others[0] if others else len(house[1])
                for known in range(len(house[1]) + 1):
                    self.same(is_known_run(house, state, known, run + (("ask", x, downs),)), known <= most)


if __name__ == "__main__":
    unittest.main()
