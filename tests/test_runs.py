"""Point [18]: runs, with the order at first [5] and known keepers [10]."""

import itertools
import random
import unittest

from floorkeepers.errors import CannotDo
from floorkeepers.forms import is_run
from floorkeepers.moves import asks_of
from floorkeepers.runs import come_to, last_use_run, log_of, ran, worth_run
from tests.helper import Case, HOUSES, asks_by_keepers, exact, random_run, states_by_counting

HOUSE, STATE = (4, (1, 2)), (1, 0, 2, 1)
MORE = [(6, (1, 1, 1, 1)), (7, (2, 1, 2)), (9, (2, 3)), (6, (1, 2, 1, 2)), (6, (4,))]


def chosen_run(house, state, row, choose):
    """The run of asks whose keepers put down what choose(asked ones, things) tells of their things."""
    run = []
    for at, thing in enumerate(row):
        downs = downs_chosen(house, state, thing, lambda lot: choose(row[:at + 1], lot))
        run.append(("ask", thing, downs))
        state = dict(asks_by_keepers(house, state, thing))[downs]
    return tuple(run)


def downs_chosen(house, state, thing, choose):
    floors = [[x for x in range(house[0]) if state[x] == floor and x != thing] for floor in range(len(house[1]))]
    downs = []
    for floor, room in enumerate(house[1]):
        lot = floors[floor] + downs[-1:]
        if len(lot) + (1 if floor == 0 else 0) <= room:
            break
        downs.append(choose(lot))
    return tuple(downs)


def longest_ago(first, asked, lot):
    """Which of a lot was asked for longest ago, never asked ones ahead of all, the last at first ahead of these."""
    never = [x for x in lot if x not in asked]
    if never:
        return max(never, key=lambda x: (first[x], x))
    return min(lot, key=lambda x: max(at for at, one in enumerate(asked) if one == x))


class TestRan(Case):

    def test_by_hand(self):
        run = (("ask", 2, (1, 0)), ("strike", 1, ()), ("ask", 0, (2,)))
        self.same(ran(HOUSE, STATE, run), (0, 2, 1, 1))
        self.same(log_of(HOUSE, STATE, run), (("ask", 2, 2), ("strike", 1, 1), ("ask", 0, 2)))
        self.same([ran(HOUSE, STATE, ()), log_of(HOUSE, STATE, ())], [STATE, ()])
        self.same([ran((0, (1,)), (), ()), log_of((0, (1,)), (), ())], [(), ()])
        self.same(log_of(HOUSE, STATE, (("strike", 1, ()), ("strike", 1, ()))), (("strike", 1, 0), ("strike", 1, 2)))

    def test_first_move_that_cannot_be_done(self):
        run = (("ask", 2, (1, 0)), ("strike", 1, ()), ("ask", 0, (2,)), ("ask", 0, ()))
        self.same(ran(HOUSE, STATE, run), (0, 2, 1, 1))
        for at in range(5):
            for bad in [("ask", 0, (0,)), ("ask", 0, (1, 1, 1)), ("ask", 3, (3,))]:
                for more in [(), (bad,), (("strike", 0, ()), bad)]:
                    wrong = run[:at] + (bad,) + more
                    ahead = exact(wrong)
                    self.fails(CannotDo, {"index": at}, ran, HOUSE, STATE, wrong)
                    self.fails(CannotDo, {"index": at}, log_of, HOUSE, STATE, wrong)
                    self.assertEqual(exact(wrong), ahead)
        # What could be done at first only, or at last only.
        self.fails(CannotDo, {"index": 1}, ran, HOUSE, STATE, (("ask", 2, (1, 0)), ("ask", 2, (1, 0))))
        self.fails(CannotDo, {"index": 0}, log_of, HOUSE, STATE, (("ask", 0, (2,)), ("ask", 2, (1, 0))))

    def test_random_runs_in_two_parts(self):
        dice = random.Random(18)
        for house in (HOUSES + MORE) * 4:
            state = dice.choice(states_by_counting(house))
            run, log, behind = random_run(dice, house, state, 30)
            self.same([ran(house, state, run), log_of(house, state, run)], [behind, log], house, state, run)
            for at in range(0, len(run) + 1, 5):
                amid = ran(house, state, run[:at])
                self.same(ran(house, amid, run[at:]), behind, house, state, run, at)
                self.same(log_of(house, state, run[:at]) + log_of(house, amid, run[at:]), log, house, state, run, at)


class TestLastUse(Case):

    def test_by_hand(self):
        house, state = (5, (1, 2)), (2, 1, 2, 0, 1)
        # The order at first is 3, 1, 4, 0, 2.
        self.same(last_use_run(house, state, (0,)), (("ask", 0, (3, 4)),))
        self.same(last_use_run(house, state, (0, 2)), (("ask", 0, (3, 4)), ("ask", 2, (0, 1))))
        self.same(last_use_run(house, state, (0, 3, 2, 4)),
                  (("ask", 0, (3, 4)), ("ask", 3, (0,)), ("ask", 2, (3, 1)), ("ask", 4, (2, 0))))
        self.same(last_use_run(house, state, ()), ())
        self.same(last_use_run(house, state, (3, 3)), (("ask", 3, ()), ("ask", 3, ())))

    def test_never_asked_ones_go_first(self):
        # 2 was asked for, 0 and 1 never: of these, the one that stands last by floor and thing goes.
        house = (5, (3,))
        self.same(last_use_run(house, (0, 0, 0, 1, 1), (0, 3)), (("ask", 0, ()), ("ask", 3, (2,))))
        self.same(last_use_run(house, (0, 0, 0, 1, 1), (2, 3, 4)),
                  (("ask", 2, ()), ("ask", 3, (1,)), ("ask", 4, (0,))))
        self.same(last_use_run(house, (0, 0, 0, 1, 1), (2, 1, 0, 3, 4)),
                  (("ask", 2, ()), ("ask", 1, ()), ("ask", 0, ()), ("ask", 3, (2,)), ("ask", 4, (1,))))

    def test_asked_several_times(self):
        house = (4, (2,))
        state = (1, 1, 1, 1)
        self.same(last_use_run(house, state, (0, 1, 0, 2, 3, 0)),
                  (("ask", 0, ()), ("ask", 1, ()), ("ask", 0, ()), ("ask", 2, (1,)), ("ask", 3, (0,)),
                   ("ask", 0, (2,))))

    def test_places_at_first_are_not_those_now(self):
        # 1 stands ahead of 2 at first, though both stand on one floor when one of them has to go.
        house = (4, (2, 1))
        state = (2, 0, 1, 2)
        self.same(last_use_run(house, state, (2, 0)), (("ask", 2, ()), ("ask", 0, (1,))))
        self.same(last_use_run(house, state, (2, 0, 3)), (("ask", 2, ()), ("ask", 0, (1,)), ("ask", 3, (2, 1))))

    def test_against_choices(self):
        dice = random.Random(19)
        for house in (HOUSES + MORE) * 5:
            state = dice.choice(states_by_counting(house))
            row = tuple(dice.randrange(house[0]) for _ in range(20 if house[0] else 0))
            run = last_use_run(house, state, row)
            want = chosen_run(house, state, row, lambda asked, lot: longest_ago(state, asked, lot))
            self.same(run, want, house, state, row)
            self.assertTrue(is_run(house, run))
            self.same(tuple(move[1] for move in run), row)
            self.same(ran(house, state, run[:1]), ran(house, state, last_use_run(house, state, row[:1])))

    def test_all_short_rows(self):
        for house in [(3, (1, 1)), (3, (2,)), (4, (1, 1, 1))]:
            for state in states_by_counting(house):
                for row in itertools.product(range(house[0]), repeat=3):
                    want = chosen_run(house, state, row, lambda asked, lot: longest_ago(state, asked, lot))
                    self.same(last_use_run(house, state, row), want, house, state, row)


class TestWorth(Case):

    def test_by_hand(self):
        self.same(worth_run(HOUSE, STATE, (2, 0), (5, 1, 2, 9)), (("ask", 2, (1, 1)), ("ask", 0, (2,))))
        self.same(worth_run(HOUSE, STATE, (2, 0), (1, 5, 2, 9)), (("ask", 2, (1, 0)), ("ask", 0, (2, 2))))
        self.same(worth_run(HOUSE, STATE, (2,), (-1, -5, -2, -9)), (("ask", 2, (1, 3)),))
        self.same(worth_run(HOUSE, STATE, (2,), (0, -5, -2, 9)), (("ask", 2, (1, 1)),))
        self.same(worth_run(HOUSE, STATE, (), (5, 1, 2, 9)), ())
        self.same(worth_run((0, (1,)), (), (), ()), ())

    def test_the_asked_one_is_not_put_down(self):
        house = (3, (2,))
        for worths in [(-9, 0, 9), (-9, 9, 0)]:
            self.same(worth_run(house, (1, 0, 0), (0,), worths), (("ask", 0, (1 if worths[1] == 0 else 2,)),))
        # Asked again, it may go when another one is asked.
        self.same(worth_run(house, (1, 0, 0), (0, 1), (-9, 0, 9)), (("ask", 0, (1,)), ("ask", 1, (0,))))

    def test_against_choices(self):
        dice = random.Random(20)
        for house in (HOUSES + MORE) * 5:
            state = dice.choice(states_by_counting(house))
            row = tuple(dice.randrange(house[0]) for _ in range(20 if house[0] else 0))
            worths = tuple(dice.sample([-10 ** 20, -70, -7, -3, -2, -1, 0, 1, 2, 3, 8, 90, 10 ** 20], house[0]))
            want = chosen_run(house, state, row, lambda asked, lot: min(lot, key=lambda x: worths[x]))
            ahead = exact((house, state, row, worths))
            self.same(worth_run(house, state, row, worths), want, house, state, row, worths)
            self.assertEqual(exact((house, state, row, worths)), ahead)

    def test_all_orders_of_worths(self):
        house = (4, (1, 1, 1))
        for worths in itertools.permutations((-2, -1, 0, 5)):
            for state in states_by_counting(house)[::5]:
                for row in itertools.product(range(4), repeat=2):
                    want = chosen_run(house, state, row, lambda asked, lot: min(lot, key=lambda x: worths[x]))
                    self.same(worth_run(house, state, row, worths), want, house, state, row, worths)


class TestComeTo(Case):

    def test_by_hand(self):
        self.same(come_to(HOUSE, STATE, ("ask", 2, 2)), [(1, 1, 0, 2), (1, 2, 0, 1), (2, 1, 0, 1)])
        self.same(come_to(HOUSE, STATE, ("ask", 3, 1)), [(1, 1, 2, 0)])
        self.same(come_to(HOUSE, STATE, ("ask", 3, 2)), [])
        self.same(come_to(HOUSE, STATE, ("ask", 1, 0)), [STATE])
        self.same(come_to(HOUSE, STATE, ("ask", 1, 1)), [])
        self.same(come_to(HOUSE, STATE, ("strike", 3, 1)), [(1, 0, 2, 2)])
        self.same(come_to(HOUSE, STATE, ("strike", 3, 2)), [])
        self.same(come_to(HOUSE, STATE, ("strike", 2, 2)), [STATE])
        self.same(come_to(HOUSE, STATE, ("strike", 2, 1)), [])
        self.same(come_to(HOUSE, STATE, ("strike", 1, 0)), [(1, 2, 2, 1)])

    def test_all_entries(self):
        for house in HOUSES:
            states = states_by_counting(house)
            out = len(house[1])
            for state in states[::len(states) // 20 + 1]:
                for thing, floor in itertools.product(range(house[0]), range(out + 1)):
                    struck = [state[:thing] + (out,) + state[thing + 1:]]
                    behind = sorted(set(found[1] for found in asks_by_keepers(house, state, thing)))
                    here = state[thing] == floor
                    self.same(come_to(house, state, ("ask", thing, floor)), behind if here else [], house, state)
                    self.same(come_to(house, state, ("strike", thing, floor)), struck if here else [], house, state)

    def test_many(self):
        house = (16, (3, 3, 3, 3))
        state = (0, 0, 0, 1, 1, 1, 2, 2, 2, 3, 3, 3, 4, 4, 4, 4)
        states = come_to(house, state, ("ask", 15, 4))
        self.assertEqual(len(states), 192)
        self.assertEqual(states, sorted(set(states)))
        self.assertEqual(states, sorted(ran(house, state, (move,)) for move in asks_of(house, state, 15)))

    def test_asked_again(self):
        for entry in [("ask", 2, 2), ("ask", 3, 2), ("ask", 1, 0), ("strike", 3, 1), ("strike", 3, 2)]:
            self.twice(come_to, HOUSE, STATE, entry)


if __name__ == "__main__":
    unittest.main()
