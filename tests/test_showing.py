"""Point [25]: runs that show a log."""

import itertools
import random
import unittest

from floorkeepers.errors import CannotBe, NotFit, TooMany
from floorkeepers.leading import can_be, knowledge_behind
from floorkeepers.showing import is_showing, showing, showing_to, showing_with, showings_many
from tests.helper import (BIG, Case, TINY, all_behind, big_starts, entries_of, exact, first_states, fits_like,
                          moves_of, number_changes, odd_values, part_changes, random_run, some_log, starts_of,
                          states_by_counting)

HOUSE, EMPTY = (3, (1, 1)), (2, 2, 2)
LOG = (("ask", 0, 2), ("ask", 1, 2), ("ask", 2, 2))
SOME = [(5, (1, 2)), (6, (2, 1, 1)), (4, (1, 1, 1)), (4, (3,)), (5, (2,)), (3, (2, 2)), (6, (1, 1)), (5, (2, 2)),
        (5, (1, 1, 1, 1)), (0, (1, 2))]


def all_showings(house, start, log):
    """All showings of a log, with the states at which their runs end."""
    found = [(state, (), state) for state in first_states(house, start)]
    for entry in log:
        found = [(first, run + (move,), behind) for first, run, state in found
                 for move, behind in moves_of(house, state, entry)]
    return found


def told_of(value):
    """A text that tells a value and the kind of each of its parts."""
    return repr(exact(value))


def counted_showings(house, start, log):
    """How many showings a log has, by the number of them that end at each state."""
    ways = {state: 1 for state in first_states(house, start)}
    for entry in log:
        behind = {}
        for state, many in ways.items():
            for _, other in moves_of(house, state, entry):
                behind[other] = behind.get(other, 0) + many
        ways = behind
    return sum(ways.values())


def ends(house, start, log):
    """All states to which a log leads."""
    states = first_states(house, start)
    for entry in log:
        states = all_behind(house, states, entry)
    return states


class TestShowing(Case):

    def check(self, house, start, log, got, state=None):
        """What was told shows the log, and ends at the state."""
        self.assertTrue(isinstance(got, tuple) and len(got) == 2 and isinstance(got[1], tuple), got)
        now = got[0]
        if start is None:
            self.assertEqual([now.count(floor) for floor in range(len(house[1]))], list(house[1]))
        else:
            self.same(now, start, house, log)
        self.assertEqual(len(got[1]), len(log), (house, start, log, got))
        for move, entry in zip(got[1], log):
            found = [behind for some, behind in moves_of(house, now, entry) if exact(some) == exact(move)]
            self.assertEqual(len(found), 1, (house, start, log, got, entry))
            now = found[0]
        if state is not None:
            self.same(now, state, house, start, log, got)
        self.same(is_showing(house, start, log, got), True, house, start, log, got)
        return now

    def test_by_hand(self):
        self.same(showing_to(HOUSE, EMPTY, LOG, (2, 1, 0)),
                  (EMPTY, (("ask", 0, ()), ("ask", 1, (0,)), ("ask", 2, (1, 0)))))
        self.same(showing_to(HOUSE, EMPTY, LOG, (1, 2, 0)),
                  (EMPTY, (("ask", 0, ()), ("ask", 1, (0,)), ("ask", 2, (1, 1)))))
        self.same(showing_to(HOUSE, None, (), (1, 2, 0)), ((1, 2, 0), ()))
        self.same(showing_to(HOUSE, None, (("strike", 0, 0),), (2, 2, 1)), ((0, 2, 1), (("strike", 0, ()),)))
        self.same([showing(HOUSE, (0, 2, 1), ()), showing((0, (1,)), (), ())], [((0, 2, 1), ()), ((), ())])
        self.same([showing_with(HOUSE, EMPTY, LOG, {0: 0}), showing_with(HOUSE, EMPTY, LOG, {0: 1, 1: 1})],
                  [None, None])
        self.same(showing_with(HOUSE, EMPTY, LOG, {0: 1}), showing_to(HOUSE, EMPTY, LOG, (1, 2, 0)))

    def test_errors(self):
        bad = ("ask", 2, 1)
        for log, index in [(LOG + (bad,), 3), ((bad,) + LOG, 0), (LOG[:2] + (bad, bad), 2)]:
            # The state fits nothing, and the things are wanted nowhere, but this is said later.
            self.fails(CannotBe, {"index": index}, showing_to, HOUSE, EMPTY, log, EMPTY)
            self.fails(CannotBe, {"index": index}, showing, HOUSE, EMPTY, log)
            self.fails(CannotBe, {"index": index}, showing_with, HOUSE, EMPTY, log, {0: 0, 1: 0})
        for state in [EMPTY, (0, 1, 2), (2, 2, 0), (2, 0, 1)]:
            self.fails(NotFit, {}, showing_to, HOUSE, EMPTY, LOG, state)
        self.fails(NotFit, {}, showing_to, HOUSE, EMPTY, (), (0, 2, 2))
        self.fails(NotFit, {}, showing_to, HOUSE, None, (), (0, 2, 2))

    def test_short_logs(self):
        dice = random.Random(25)
        for house in TINY:
            entries = entries_of(house)
            for start in starts_of(house)[-4:]:
                logs = list(itertools.product(entries, repeat=2 if entries else 0))
                for log in dice.sample(logs, min(len(logs), 40)) + [()]:
                    states = ends(house, start, log)
                    for state in states:
                        self.check(house, start, log, showing_to(house, start, log, state), state)
                    if states:
                        for state in states_by_counting(house):
                            if state not in states:
                                self.fails(NotFit, {}, showing_to, house, start, log, state)
                        self.check(house, start, log, showing(house, start, log))
                    else:
                        self.fails_all(house, start, log)

    def fails_all(self, house, start, log):
        """A log that cannot be, with the index of the first entry that cannot be."""
        index = max(at for at in range(len(log)) if ends(house, start, log[:at]))
        self.fails(CannotBe, {"index": index}, showing, house, start, log)
        self.fails(CannotBe, {"index": index}, showing_with, house, start, log, {})
        self.fails(CannotBe, {"index": index}, showing_to, house, start, log, (len(house[1]),) * house[0])

    def test_to_each_state(self):
        dice = random.Random(26)
        for house in SOME:
            for start in [dice.choice(states_by_counting(house)), starts_of(house)[-1]]:
                for long in (5, 20, 60):
                    log, states = some_log(dice, house, first_states(house, start), long)
                    for state in states[::len(states) // 12 + 1]:
                        self.check(house, start, log, showing_to(house, start, log, state), state)
                    others = [state for state in states_by_counting(house) if state not in states]
                    for state in others[::len(others) // 6 + 1]:
                        self.fails(NotFit, {}, showing_to, house, start, log, state)
                    self.assertIn(self.check(house, start, log, showing(house, start, log)), states)

    def test_with_things_wanted(self):
        dice = random.Random(27)
        for house in SOME:
            for start in [dice.choice(states_by_counting(house)), starts_of(house)[-1]]:
                for long in (0, 10, 60):
                    log, states = some_log(dice, house, first_states(house, start), long)
                    for _ in range(12):
                        things = dice.sample(range(house[0]), dice.randrange(house[0] + 1))
                        wanted = {x: dice.choice([dice.choice(states)[x], dice.randrange(len(house[1]) + 1)])
                                  for x in things}
                        ahead = list(wanted.items())
                        got = showing_with(house, start, log, wanted)
                        self.assertEqual(list(wanted.items()), ahead)
                        if any(all(state[x] == wanted[x] for x in wanted) for state in states):
                            end = self.check(house, start, log, got)
                            self.assertTrue(all(end[x] == wanted[x] for x in wanted), (house, start, log, wanted))
                        else:
                            self.same(got, None, house, start, log, wanted)
                    everything = dict(enumerate(dice.choice(states)))
                    self.same(self.check(house, start, log, showing_with(house, start, log, everything)),
                              tuple(everything[x] for x in range(house[0])))

    def test_large_houses(self):
        dice = random.Random(28)
        for house in BIG:
            for start, state in big_starts(dice, house):
                _, log, state = random_run(dice, house, state, 60)
                self.check(house, start, log, showing_to(house, start, log, state), state)
                end = self.check(house, start, log, showing(house, start, log))
                self.assertTrue(fits_like(knowledge_behind(house, start, log), end))
                x = dice.randrange(house[0])
                self.assertEqual(self.check(house, start, log, showing_with(house, start, log, {x: state[x]}))[x],
                                 state[x])

    def test_the_same_again(self):
        for _ in range(2):
            self.same(showing(HOUSE, None, LOG[:2]), showing(HOUSE, None, LOG[:2]))


class TestIsShowing(Case):

    def test_by_hand(self):
        for thing, want in [((EMPTY, (("ask", 0, ()),)), True), ((EMPTY, (("ask", 0, (1,)),)), False),
                            ((EMPTY, (("ask", 1, ()),)), False), ((EMPTY, ()), False), ((EMPTY,), False),
                            (((0, 2, 2), (("ask", 0, ()),)), False), (((1, 2, 2), (("ask", 0, ()),)), False),
                            ((EMPTY, (("strike", 0, ()),)), False), ((EMPTY, (("ask", 0, ()),) * 2), False),
                            ([EMPTY, (("ask", 0, ()),)], False), ((EMPTY, [("ask", 0, ())]), False),
                            ((EMPTY, (["ask", 0, ()],)), False), ((EMPTY, (("ask", False, ()),)), False),
                            ((EMPTY, (("ask", 0, ()),), ()), False), (None, False), ((None, (("ask", 0, ()),)), False)]:
            self.same(is_showing(HOUSE, EMPTY, LOG[:1], thing), want, thing)
        self.same([is_showing(HOUSE, EMPTY, (), (EMPTY, ())), is_showing((0, (1,)), (), (), ((), ()))], [True, True])

    def test_truths_are_no_integers(self):
        run = (("ask", 0, ()), ("ask", 1, (0,)))
        self.same(is_showing(HOUSE, EMPTY, LOG[:2], (EMPTY, run)), True)
        self.same(is_showing(HOUSE, EMPTY, LOG[:2], (EMPTY, (run[0], ("ask", True, (0,))))), False)
        self.same(is_showing(HOUSE, EMPTY, LOG[:2], (EMPTY, (run[0], ("ask", 1, (False,))))), False)
        house = (3, (1,))
        self.same([is_showing(house, (0, 1, 1), (), (first, ())) for first in [(0, 1, 1), (False, 1, 1), (0, True, 1)]],
                  [True, False, False])

    def test_any_state_alone_where_any_is_the_start(self):
        for state in states_by_counting(HOUSE):
            self.same(is_showing(HOUSE, None, (), (state, ())), sorted(state) == [0, 1, 2], state)
            self.same(is_showing(HOUSE, (0, 2, 1), (), (state, ())), state == (0, 2, 1), state)

    def test_all_short_runs(self):
        house = (2, (1, 1))
        downs = [(), (0,), (1,), (0, 0), (0, 1), (1, 0), (1, 1)]
        moves = [("ask", x, down) for x in range(2) for down in downs] + [("strike", x, ()) for x in range(2)]
        runs = list(itertools.product(moves, repeat=2))
        for start in starts_of(house):
            for log in itertools.product(entries_of(house), repeat=2):
                right = {told_of(found[:2]) for found in all_showings(house, start, log)}
                if not right:
                    continue
                got = {told_of((state, run)) for state in states_by_counting(house) for run in runs
                       if is_showing(house, start, log, (state, run))}
                self.assertEqual(got, right, (start, log))

    def test_one_item_otherwise(self):
        dice = random.Random(29)
        told = 0
        for house in [(4, (1, 2)), (4, (1, 1, 1)), (3, (1, 1)), (4, (2, 1)), (3, (2,)), (2, (1, 1))] * 2:
            for start, state in big_starts(dice, house):
                run, log, _ = random_run(dice, house, state, 5)
                right = {told_of(found[:2]) for found in all_showings(house, start, log)}
                self.same(is_showing(house, start, log, (state, run)), True)
                for other in part_changes((state, run)) + number_changes((state, run)):
                    want = told_of(other) in right
                    told += want
                    self.same(is_showing(house, start, log, other), want, house, start, log, other)
        self.assertGreater(told, 5)

    def test_any_values(self):
        for thing in odd_values():
            self.same(is_showing(HOUSE, EMPTY, LOG, thing), False, thing)
            self.same(is_showing(HOUSE, EMPTY, LOG, (thing, thing)), False, thing)
            self.same(is_showing(HOUSE, None, (), (thing, ())), False, thing)
            # No moves are a run, too, but not of this log.
            self.same(is_showing(HOUSE, EMPTY, LOG, (EMPTY, thing)), False, thing)
            self.same(is_showing(HOUSE, EMPTY, LOG[:1], (EMPTY, (thing,))), False, thing)
            self.same(is_showing(HOUSE, EMPTY, LOG[:1], (EMPTY, (("ask", 0, thing),))), False, thing)


class TestMany(Case):

    def test_by_hand(self):
        self.same([showings_many(HOUSE, EMPTY, LOG), showings_many(HOUSE, None, LOG)], [2, 4])
        self.same([showings_many(HOUSE, EMPTY, ()), showings_many(HOUSE, None, ()), showings_many((0, (1,)), (), ())],
                  [1, 6, 1])
        self.same([showings_many(HOUSE, EMPTY, (("ask", 0, 0),)), showings_many(HOUSE, EMPTY, LOG + (("ask", 2, 1),))],
                  [0, 0])

    def test_two_states_with_one_run(self):
        # From each of two states, with things 0 and 1 the other way about.
        house = (2, (1, 1))
        log = (("strike", 0, 0),)
        self.same(showings_many(house, None, ()), 2)
        self.same(showings_many(house, None, log), 1)
        self.same(showings_many((3, (2,)), None, (("strike", 0, 0),)), 2)

    def test_all_runs_in_small_houses(self):
        dice = random.Random(30)
        for house in TINY + [(4, (1, 2)), (4, (2, 1)), (4, (1, 1, 1))]:
            for start in [dice.choice(starts_of(house)), starts_of(house)[-1], states_by_counting(house)[-1]]:
                for long in (1, 2, 4, 5):
                    log, states = some_log(dice, house, first_states(house, start), long)
                    found = all_showings(house, start, log)
                    self.same(showings_many(house, start, log), len(found), house, start, log)
                    self.assertEqual(counted_showings(house, start, log), len(found))
                    self.assertTrue(all(is_showing(house, start, log, some[:2]) for some in found[:5]))
                    self.assertEqual(sorted({some[2] for some in found}), states)
                    if house[0]:
                        log += (dice.choice(entries_of(house)),)
                        self.same(showings_many(house, start, log), len(all_showings(house, start, log)), house, log)

    def test_entries_that_cannot_be(self):
        dice = random.Random(31)
        for house in SOME[:-1]:
            start = starts_of(house)[-1]
            log, states = some_log(dice, house, first_states(house, start), 20)
            bad = [entry for entry in entries_of(house) if not all_behind(house, states, entry)]
            self.assertGreater(showings_many(house, start, log), 0)
            for entry in bad[:4]:
                self.same(can_be(house, start, log + (entry,)), False)
                self.same(showings_many(house, start, log + (entry,)), 0, house, start, log, entry)
                self.same(showings_many(house, start, log + (entry,) + log), 0, house, start, log, entry)

    def test_too_many_at_first(self):
        for house in [(16, (3, 3, 3, 3)), (15, (5,)), (14, (6,))]:
            self.fails(TooMany, {"most": 3000}, showings_many, house, None, ())
            # Not even where the first entry cannot be.
            self.fails(TooMany, {"most": 3000}, showings_many, house, None, (("ask", 0, 0), ("ask", 0, 1)))
        self.same(showings_many((3000, (1,)), None, ()), 3000)
        self.fails(TooMany, {"most": 3000}, showings_many, (3001, (1,)), None, ())
        self.same(showings_many((12, (3, 1)), None, (("ask", 0, 0),) * 3), 495)

    def test_too_many_behind_an_entry(self):
        # All are put down from one floor to the next one, or further.
        house = (16, (3, 3, 3, 3))
        start = (0, 0, 0, 1, 1, 1, 2, 2, 2, 3, 3, 3, 4, 4, 4, 4)
        log = (("ask", 12, 4), ("ask", 13, 4), ("ask", 14, 4))
        self.same(showings_many(house, start, log[:1]), 192)
        # Behind the second one 7,692 states can be.
        self.fails(TooMany, {"most": 3000}, showings_many, house, start, log)
        self.fails(TooMany, {"most": 3000}, showings_many, house, start, log + (("ask", 14, 4),))
        # An entry that cannot be, ahead of where there would be too many.
        self.same(showings_many(house, start, log[:1] + (("ask", 12, 4),) + log[1:]), 0)

    def test_just_3000_behind_an_entry(self):
        # 10 * 15 * 20 asks of the one thing that is OUT; then this is struck out.
        house = (44, (10, 14, 19))
        start = (0,) * 10 + (1,) * 14 + (2,) * 19 + (3,)
        self.same(showings_many(house, start, (("ask", 43, 3),)), 3000)
        self.same(showings_many(house, start, (("ask", 43, 3), ("strike", 43, 0), ("strike", 43, 3))), 3000)
        house = (45, (11, 14, 19))
        self.fails(TooMany, {"most": 3000}, showings_many, house, (0,) + start, (("ask", 44, 3),))
        # Beyond it behind the second entry.
        house = (45, (10, 14, 19))
        self.fails(TooMany, {"most": 3000}, showings_many, house, start + (3,), (("ask", 43, 3), ("ask", 44, 3)))

    def test_long_logs(self):
        # Many showings of few states: none of them is gone through by itself.
        house = (4, (1, 1))
        log = tuple(("ask", x, 2) for x in (0, 1, 2))
        more = log + (("ask", 3, 2),) + (("strike", 3, 0), ("ask", 3, 2)) * 28
        self.same(showings_many(house, (2, 2, 2, 2), more), counted_showings(house, (2, 2, 2, 2), more))
        dice = random.Random(32)
        for house, start in [((7, (2, 2)), (0, 0, 1, 1, 2, 2, 2)), ((6, (1, 2, 1)), None)]:
            states = first_states(house, start)
            log = ()
            for _ in range(60):
                out = [x for x, floor in enumerate(dice.choice(states)) if floor == len(house[1])]
                log += (("ask", dice.choice(out), len(house[1])),)
                states = all_behind(house, states, log[-1])
            many = showings_many(house, start, log)
            self.same(many, counted_showings(house, start, log), house, start, log)
            self.assertGreater(many, 10 ** 20)


if __name__ == "__main__":
    unittest.main()
