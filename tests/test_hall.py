"""Point [17]: halls."""

import random
import unittest

from floorkeepers.errors import CannotDo, Nothing, Wrong
from floorkeepers.hall import Hall
from floorkeepers.moves import asks_of
from tests.helper import (Case, HOUSES, asks_by_keepers, exact, house_like, odd_values, part_changes,
                          states_by_counting)

HOUSE, STATE = (4, (1, 2)), (1, 0, 2, 1)
FIRST, SECOND, THIRD = ("ask", 2, (1, 0)), ("strike", 1, ()), ("ask", 0, (2,))


def led_hall():
    hall = Hall(HOUSE, STATE)
    for move in (FIRST, SECOND, THIRD):
        hall.do(move)
    return hall


class Model:
    """A hall by other means: all states and moves that were, and a place among them."""

    def __init__(self, house, state):
        self.house, self.first = house, state
        self.rows, self.at = [], 0

    def state(self):
        return self.rows[self.at - 1][2] if self.at else self.first

    def do(self, move, found, behind):
        self.rows = self.rows[:self.at] + [(move, (move[0], move[1], found), behind)]
        self.at += 1


class TestHall(Case):

    def told(self, hall, state, run, log):
        self.same([hall.state(), hall.run(), hall.log()], [state, run, log])

    def test_by_hand(self):
        hall = Hall(HOUSE, STATE)
        self.told(hall, STATE, (), ())
        self.same(hall.do(FIRST), 2)
        self.told(hall, (2, 1, 0, 1), (FIRST,), (("ask", 2, 2),))
        self.same(hall.do(SECOND), 1)
        self.told(hall, (2, 2, 0, 1), (FIRST, SECOND), (("ask", 2, 2), ("strike", 1, 1)))
        self.same(hall.do(THIRD), 2)
        self.told(hall, (0, 2, 1, 1), (FIRST, SECOND, THIRD), (("ask", 2, 2), ("strike", 1, 1), ("ask", 0, 2)))
        self.same(hall.do(("ask", 0, ())), 0)
        self.same(hall.do(("strike", 1, ())), 2)
        self.same(hall.state(), (0, 2, 1, 1))
        self.same(len(hall.run()), 5)

    def test_back_and_again(self):
        hall = led_hall()
        self.same(hall.back(), None)
        self.told(hall, (2, 2, 0, 1), (FIRST, SECOND), (("ask", 2, 2), ("strike", 1, 1)))
        self.same(hall.back(), None)
        self.told(hall, (2, 1, 0, 1), (FIRST,), (("ask", 2, 2),))
        self.same(hall.again(), None)
        self.told(hall, (2, 2, 0, 1), (FIRST, SECOND), (("ask", 2, 2), ("strike", 1, 1)))
        self.same(hall.again(), None)
        self.told(hall, (0, 2, 1, 1), (FIRST, SECOND, THIRD), (("ask", 2, 2), ("strike", 1, 1), ("ask", 0, 2)))
        self.fails(Nothing, {}, hall.again)
        for _ in range(3):
            hall.back()
        self.told(hall, STATE, (), ())
        self.fails(Nothing, {}, hall.back)
        self.told(hall, STATE, (), ())
        for _ in range(3):
            hall.again()
        self.same(hall.run(), (FIRST, SECOND, THIRD))

    def test_nothing_at_both_ends(self):
        hall = Hall(HOUSE, STATE)
        self.fails(Nothing, {}, hall.back)
        self.fails(Nothing, {}, hall.again)
        hall.do(FIRST)
        self.fails(Nothing, {}, hall.again)
        hall.back()
        self.fails(Nothing, {}, hall.back)
        hall.again()
        self.fails(Nothing, {}, hall.again)
        self.told(hall, (2, 1, 0, 1), (FIRST,), (("ask", 2, 2),))

    def test_refused_calls_change_nothing(self):
        hall = led_hall()
        hall.back()
        ahead = [hall.state(), hall.run(), hall.log()]
        for move in odd_values() + part_changes(THIRD)[:30] + [("ask", 0, ()), ("ask", 2, (2,)), FIRST, Nothing(), hall]:
            if exact(move) == exact(THIRD):
                continue
            twin = hall.twin()
            try:
                twin.do(move)
            except CannotDo:
                self.fails(CannotDo, {"index": 2}, hall.do, move)
                self.same([hall.state(), hall.run(), hall.log()], ahead, move)
        # So what was taken back can be done again still.
        hall.again()
        self.same(hall.run(), (FIRST, SECOND, THIRD))

    def test_refused_again_and_back(self):
        hall = led_hall()
        self.fails(Nothing, {}, hall.again)
        hall.back()
        hall.back()
        hall.back()
        self.fails(Nothing, {}, hall.back)
        self.fails(CannotDo, {"index": 0}, hall.do, THIRD)
        for _ in range(3):
            hall.again()
        self.same(hall.run(), (FIRST, SECOND, THIRD))

    def test_index_of_refused_moves(self):
        hall = Hall(HOUSE, STATE)
        self.fails(CannotDo, {"index": 0}, hall.do, THIRD)
        for count in range(1, 5):
            hall.do(("strike", 3, ()))
            self.fails(CannotDo, {"index": count}, hall.do, ("ask", 9, ()))
        hall.back()
        self.fails(CannotDo, {"index": 3}, hall.do, None)
        hall.again()
        self.fails(CannotDo, {"index": 4}, hall.do, ["strike", 3, ()])

    def test_a_move_takes_again_away(self):
        for move in [SECOND, ("strike", 1, ()), ("ask", 2, ()), ("strike", 0, ())]:
            hall = led_hall()
            hall.back()
            hall.back()
            hall.do(move)
            self.fails(Nothing, {}, hall.again)
            self.same(hall.run(), (FIRST, move))
            hall.back()
            hall.again()
            self.same(hall.run(), (FIRST, move))
            self.fails(Nothing, {}, hall.again)

    def test_again_does_not_take_again_away(self):
        hall = led_hall()
        for _ in range(3):
            hall.back()
        hall.again()
        hall.back()
        hall.again()
        hall.again()
        hall.again()
        self.same(hall.run(), (FIRST, SECOND, THIRD))

    def test_twins(self):
        hall = led_hall()
        hall.back()
        twin = hall.twin()
        self.assertIsInstance(twin, Hall)
        self.assertIsNot(twin, hall)
        self.assertTrue(twin == hall)
        self.same([twin.state(), twin.run(), twin.log()], [hall.state(), hall.run(), hall.log()])
        # A twin can go back and do again what the first one could.
        twin.again()
        self.same(twin.run(), (FIRST, SECOND, THIRD))
        self.same(hall.run(), (FIRST, SECOND))
        self.assertFalse(twin == hall)
        twin.back()
        twin.back()
        self.told(twin, (2, 1, 0, 1), (FIRST,), (("ask", 2, 2),))
        self.told(hall, (2, 2, 0, 1), (FIRST, SECOND), (("ask", 2, 2), ("strike", 1, 1)))
        hall.do(("ask", 3, (2,)))
        self.fails(Nothing, {}, hall.again)
        twin.again()
        twin.again()
        self.same(twin.run(), (FIRST, SECOND, THIRD))
        hall.back()
        hall.back()
        hall.back()
        self.told(hall, STATE, (), ())
        self.told(twin, (0, 2, 1, 1), (FIRST, SECOND, THIRD), (("ask", 2, 2), ("strike", 1, 1), ("ask", 0, 2)))

    def test_twins_share_nothing_that_was_taken_back(self):
        hall = led_hall()
        twin = hall.twin()
        hall.back()
        self.fails(Nothing, {}, twin.again)
        self.same(twin.run(), (FIRST, SECOND, THIRD))
        other = hall.twin()
        other.back()
        other.back()
        hall.again()
        self.fails(Nothing, {}, hall.again)
        for _ in range(3):
            other.again()
        self.same([hall.run(), twin.run(), other.run()], [(FIRST, SECOND, THIRD)] * 3)
        self.same([hall.state(), twin.state(), other.state()], [(0, 2, 1, 1)] * 3)

    def test_twins_lead_first_ones_by_nothing(self):
        hall = Hall(HOUSE, STATE)
        twin = hall.twin()
        hall.do(FIRST)
        self.told(twin, STATE, (), ())
        self.fails(Nothing, {}, twin.back)
        twin.do(SECOND)
        self.told(hall, (2, 1, 0, 1), (FIRST,), (("ask", 2, 2),))
        hall.back()
        self.fails(Nothing, {}, twin.again)
        self.same(twin.twin().run(), (SECOND,))

    def equal(self, one, other, want):
        self.same(one == other, want)
        self.same(other == one, want)
        self.same(one != other, not want)

    def test_equal(self):
        self.equal(Hall(HOUSE, STATE), Hall(HOUSE, STATE), True)
        self.equal(led_hall(), led_hall(), True)
        self.equal(Hall(HOUSE, STATE), led_hall(), False)
        self.equal(Hall(HOUSE, STATE), Hall(HOUSE, (1, 0, 2, 2)), False)
        self.equal(Hall(HOUSE, STATE), Hall((4, (1, 3)), STATE), False)
        self.equal(Hall(HOUSE, STATE), Hall((4, (2, 2)), STATE), False)
        self.equal(Hall((0, (1,)), ()), Hall((0, (1, 1)), ()), False)
        # What was taken back does not count.
        hall = led_hall()
        for _ in range(3):
            hall.back()
        self.equal(hall, Hall(HOUSE, STATE), True)
        hall.again()
        other = Hall(HOUSE, STATE)
        other.do(FIRST)
        self.equal(hall, other, True)

    def test_equal_by_run_and_state_at_first(self):
        # The same states and logs by other runs are not enough, nor the same state now.
        one, other = Hall((3, (1, 1)), (0, 2, 2)), Hall((3, (1, 1)), (0, 2, 2))
        one.do(("strike", 1, ()))
        other.do(("strike", 2, ()))
        self.same(one.state(), other.state())
        self.equal(one, other, False)
        one, other = Hall((2, (1,)), (0, 1)), Hall((2, (1,)), (1, 1))
        for hall in (one, other):
            hall.do(("strike", 0, ()))
        self.same([one.state(), one.run()], [other.state(), other.run()])
        self.equal(one, other, False)
        one, other = Hall(HOUSE, STATE), Hall(HOUSE, STATE)
        one.do(FIRST)
        other.do(("ask", 2, (1, 1)))
        self.same(one.log(), other.log())
        self.equal(one, other, False)
        one, other = led_hall(), led_hall()
        one.do(("ask", 0, ()))
        self.same(one.state(), other.state())
        self.equal(one, other, False)

    def test_equal_to_nothing_else(self):
        hall = Hall(HOUSE, STATE)
        for thing in odd_values() + [HOUSE, STATE, (HOUSE, STATE), (HOUSE, STATE, ()), [HOUSE, STATE, []], "hall", hall.run]:
            self.equal(hall, thing, False)

    def test_wrong(self):
        wrong = [house for house in odd_values() + part_changes(HOUSE) if not house_like(house)]
        for house in wrong + [(4, (0, 1)), (-1, (1,)), (True, (1,)), (4, (True, 2)), Hall(HOUSE, STATE)]:
            for state in (STATE, (), None, house):
                self.fails(Wrong, {"place": 0}, Hall, house, state)
        right = states_by_counting(HOUSE)
        for state in odd_values() + part_changes(STATE) + [None, (0, 0, 2, 2), (1, 1, 1, 2), (3, 0, 2, 1), HOUSE, ()]:
            if exact(state) not in [exact(some) for some in right]:
                self.fails(Wrong, {"place": 1}, Hall, HOUSE, state)
        self.fails(Wrong, {"place": 1}, Hall, (4, (1, 1)), None)
        self.fails(Wrong, {"place": 1}, Hall, (0, (1,)), [])
        self.fails(Wrong, {"place": 1}, Hall, (10 ** 39, (1,)), (0, 1))
        self.same(Hall((0, (1,)), ()).state(), ())

    def test_what_was_told_may_be_kept(self):
        hall = led_hall()
        state, run, log = hall.state(), hall.run(), hall.log()
        hall.back()
        hall.do(("ask", 3, (2,)))
        self.same(state, (0, 2, 1, 1))
        self.same(run, (FIRST, SECOND, THIRD))
        self.same(log, (("ask", 2, 2), ("strike", 1, 1), ("ask", 0, 2)))

    def test_halls_share_nothing(self):
        one, other = Hall(HOUSE, STATE), Hall(HOUSE, STATE)
        one.do(FIRST)
        self.told(other, STATE, (), ())
        one.back()
        self.fails(Nothing, {}, other.again)

    def test_against_a_model(self):
        dice = random.Random(17)
        for house in HOUSES * 3:
            state = dice.choice(states_by_counting(house))
            hall, model, kept = Hall(house, state), Model(house, state), []
            for _ in range(60):
                self.one_step(dice, hall, model)
                want = model.rows[:model.at]
                self.told(hall, model.state(), tuple(row[0] for row in want), tuple(row[1] for row in want))
                kept.append((hall.twin(), hall.state(), hall.run()))
            for twin, state, run in kept:
                self.same([twin.state(), twin.run()], [state, run])

    def one_step(self, dice, hall, model):
        how = dice.randrange(6)
        if how == 0 or model.house[0] == 0:
            self.step(model.at > 0, hall.back, model, -1)
        elif how == 1:
            self.step(model.at < len(model.rows), hall.again, model, 1)
        elif how == 2:
            self.fails(CannotDo, {"index": model.at}, hall.do, ("ask", 0, (0, 0, 0, 0, 0)))
        else:
            thing = dice.randrange(model.house[0])
            state, out = model.state(), len(model.house[1])
            downs, behind = dice.choice(asks_by_keepers(model.house, state, thing))
            move = ("ask", thing, downs)
            if how == 3:
                move, behind = ("strike", thing, ()), state[:thing] + (out,) + state[thing + 1:]
            self.same(hall.do(move), state[thing])
            model.do(move, state[thing], behind)

    def step(self, can, call, model, way):
        if can:
            self.same(call(), None)
            model.at += way
        else:
            self.fails(Nothing, {}, call)

    def test_long_runs(self):
        hall = Hall((5, (1, 2)), (2,) * 5)
        for count in range(60):
            hall.do(asks_of((5, (1, 2)), hall.state(), count * 3 % 5)[-1])
        log = hall.log()
        for _ in range(60):
            hall.back()
        self.told(hall, (2,) * 5, (), ())
        for _ in range(60):
            hall.again()
        self.same(hall.log(), log)


if __name__ == "__main__":
    unittest.main()
