"""Point [16]: moves."""

import itertools
import unittest

from floorkeepers.errors import CannotDo, Nothing
from floorkeepers.moves import asks_of, can_do, done, downs_many, entry_of
from tests.helper import Case, HOUSES, asks_by_keepers, exact, odd_values, part_changes, states_by_counting

FOURS = [(6, (1, 1, 1, 1)), (6, (2, 1, 1, 1)), (5, (1, 2, 1, 2)), (1, (1, 1, 1, 1)), (7, (2, 3)), (6, (5,)), (6, (3, 2))]


def some_states(house):
    states = states_by_counting(house)
    return states[::len(states) // 25 + 1] + states[-1:]


class TestMoves(Case):

    def cannot(self, house, state, move):
        self.same(can_do(house, state, move), False, house, state, move)
        self.fails(CannotDo, {"index": 0}, done, house, state, move)
        self.fails(CannotDo, {"index": 0}, entry_of, house, state, move)

    def can(self, house, state, move, behind):
        ahead = exact((house, state, move))
        self.same(can_do(house, state, move), True, house, state, move)
        self.same(done(house, state, move), behind, house, state, move)
        self.same(entry_of(house, state, move), (move[0], move[1], state[move[1]]), house, state, move)
        self.assertEqual(exact((house, state, move)), ahead)

    def test_by_hand(self):
        house, state = (4, (1, 2)), (1, 0, 2, 1)
        self.can(house, state, ("ask", 2, (1, 0)), (2, 1, 0, 1))
        self.can(house, state, ("ask", 2, (1, 1)), (1, 2, 0, 1))
        self.can(house, state, ("ask", 2, (1, 3)), (1, 1, 0, 2))
        self.can(house, state, ("ask", 0, (1,)), (0, 1, 2, 1))
        self.can(house, state, ("ask", 1, ()), state)
        self.can(house, state, ("strike", 1, ()), (1, 2, 2, 1))
        self.can(house, state, ("strike", 2, ()), state)
        for downs in [(), (1,), (2,), (2, 1), (1, 2), (0, 0), (3, 1), (0, 1), (1, 1, 1), (1, 0, 0), (1, 0, 2)]:
            self.cannot(house, state, ("ask", 2, downs))
        for downs in [(), (0,), (3,), (2,), (1, 1), (1, 0), (1, 3)]:
            self.cannot(house, state, ("ask", 0, downs))
        for downs in [(1,), (0,), (1, 1), (2,)]:
            self.cannot(house, state, ("ask", 1, downs))

    def test_first_keeper(self):
        # It may put down all on its floor but what was asked, also if this came from its floor's next one.
        house = (4, (2, 1))
        self.same(asks_of(house, (0, 0, 1, 2), 2), [("ask", 2, (0,)), ("ask", 2, (1,))])
        self.same(asks_of(house, (0, 0, 2, 2), 2), [("ask", 2, (0,)), ("ask", 2, (1,))])
        self.same(asks_of(house, (2, 0, 0, 2), 0), [("ask", 0, (1,)), ("ask", 0, (2,))])
        self.same(downs_many(house, (0, 0, 1, 2), 2), 2)
        for downs in [(2,), (3,), (), (0, 0), (0, 2)]:
            self.cannot(house, (0, 0, 1, 2), ("ask", 2, downs))

    def test_later_keepers(self):
        # Each may put down what has just come, so that it falls on; nothing else that is not on its floor.
        house, state = (5, (1, 1, 1)), (0, 1, 2, 3, 3)
        self.same(asks_of(house, state, 3), [("ask", 3, downs) for downs in [(0, 0, 0), (0, 0, 2), (0, 1, 1), (0, 1, 2)]])
        self.can(house, state, ("ask", 3, (0, 0, 0)), (3, 1, 2, 0, 3))
        self.can(house, state, ("ask", 3, (0, 0, 2)), (2, 1, 3, 0, 3))
        self.can(house, state, ("ask", 3, (0, 1, 1)), (1, 3, 2, 0, 3))
        self.can(house, state, ("ask", 3, (0, 1, 2)), (1, 2, 3, 0, 3))
        for downs in [(0, 2, 2), (0, 0, 1), (0, 3, 3), (0, 1, 0), (1, 1, 1), (3, 3, 3), (0, 0), (0, 0, 0, 0), (4, 4, 4)]:
            self.cannot(house, state, ("ask", 3, downs))
        self.same(asks_of(house, state, 2), [("ask", 2, (0, 0)), ("ask", 2, (0, 1))])
        self.can(house, state, ("ask", 2, (0, 0)), (2, 1, 0, 3, 3))
        self.cannot(house, state, ("ask", 2, (0, 2)))

    def test_no_downs_where_a_floor_has_room(self):
        house = (4, (2, 1))
        self.same(asks_of(house, (0, 1, 2, 2), 2), [("ask", 2, ())])
        self.same(downs_many(house, (0, 1, 2, 2), 2), 1)
        self.can(house, (0, 1, 2, 2), ("ask", 1, ()), (0, 0, 2, 2))
        self.cannot(house, (0, 1, 2, 2), ("ask", 2, (0,)))
        self.cannot(house, (0, 1, 2, 2), ("ask", 2, (0, 1)))
        # The next floor has room, so its keeper keeps what comes.
        self.same(asks_of(house, (0, 0, 2, 2), 3), [("ask", 3, (0,)), ("ask", 3, (1,))])
        self.cannot(house, (0, 0, 2, 2), ("ask", 3, (0, 0)))
        self.can(house, (2, 2, 2, 2), ("ask", 0, ()), (0, 2, 2, 2))
        # A floor that has room ends it, whatever is behind it.
        house = (6, (1, 2, 1))
        self.same(asks_of(house, (0, 1, 2, 3, 3, 3), 4), [("ask", 4, (0,))])
        self.can(house, (0, 1, 2, 3, 3, 3), ("ask", 4, (0,)), (1, 1, 2, 3, 0, 3))

    def test_asked_on_the_first_floor(self):
        for house in HOUSES + FOURS:
            for state in some_states(house):
                for thing in range(house[0]):
                    if state[thing] == 0:
                        self.same(asks_of(house, state, thing), [("ask", thing, ())], house, state, thing)
                        self.same(downs_many(house, state, thing), 1, house, state, thing)
                        self.can(house, state, ("ask", thing, ()), state)
                        self.cannot(house, state, ("ask", thing, (thing,)))

    def test_strikes(self):
        for house in HOUSES + FOURS:
            out = len(house[1])
            for state in some_states(house):
                for thing in range(house[0]):
                    self.can(house, state, ("strike", thing, ()), state[:thing] + (out,) + state[thing + 1:])
                    for downs in ((thing,), (0,), [], None):
                        self.cannot(house, state, ("strike", thing, downs))

    def test_all_asks(self):
        for house in HOUSES + FOURS:
            for state in some_states(house):
                for thing in range(house[0]):
                    found = asks_by_keepers(house, state, thing)
                    moves = [("ask", thing, downs) for downs, _ in found]
                    self.assertEqual(moves, sorted(set(moves)))
                    self.same(asks_of(house, state, thing), moves, house, state, thing)
                    self.same(downs_many(house, state, thing), len(moves), house, state, thing)
                    for downs, behind in found:
                        self.can(house, state, ("ask", thing, downs), behind)

    def test_all_others_cannot_be_done(self):
        for house in [(2, (1, 1)), (3, (1, 1)), (3, (2, 1)), (3, (1, 2)), (3, (2,)), (3, (1,)), (3, (1, 1, 1)), (2, (3,))]:
            things = range(-1, house[0] + 1)
            for state in states_by_counting(house):
                for thing in things:
                    right = {}
                    if thing in range(house[0]):
                        right = dict(asks_by_keepers(house, state, thing))
                    for downs in [row for long in range(5) for row in itertools.product(things, repeat=long)][:400]:
                        if downs not in right:
                            self.same(can_do(house, state, ("ask", thing, downs)), False, house, state, thing, downs)
                    self.cannot(house, state, ("ask", thing, (thing,) * 3))

    def test_any_value(self):
        house, state = (4, (1, 2)), (1, 0, 2, 1)
        for move in odd_values() + [Nothing(), ("ask", Nothing(), ()), ("ask", 2, Nothing()), (Nothing(), 2, ()),
                                    ("ask", 2, [1, 0]), ["ask", 2, (1, 0)], ("ask", True, ()), ("strike", False, ()),
                                    ("ask", 2, (True, 0)), ("ask", 2, (1, False)), ("ask", 4, ()), ("strike", 4, ()),
                                    ("strike", -1, ()), ("ask", -3, ()), ("ask", 1), ("strike", 1), ("strike",)]:
            self.cannot(house, state, move)
        for right in [("ask", 2, (1, 0)), ("ask", 2, (1, 1)), ("ask", 0, (1,)), ("ask", 1, ()), ("strike", 3, ())]:
            moves = [("strike", x, ()) for x in range(4)] + [move for x in range(4) for move in asks_of(house, state, x)]
            kinds = [exact(move) for move in moves]
            for move in part_changes(right):
                if exact(move) not in kinds:
                    self.cannot(house, state, move)
        self.cannot((0, (1,)), (), ("ask", 0, ()))
        self.cannot((0, (1,)), (), ("strike", 0, ()))

    def test_entries(self):
        house, state = (4, (1, 2)), (1, 0, 2, 1)
        self.same([entry_of(house, state, ("ask", 2, (1, 0))), entry_of(house, state, ("ask", 3, (1,))),
                   entry_of(house, state, ("strike", 0, ())), entry_of(house, state, ("strike", 2, ()))],
                  [("ask", 2, 2), ("ask", 3, 1), ("strike", 0, 1), ("strike", 2, 2)])

    def test_many_asks(self):
        house = (16, (3, 3, 3, 3))
        state = (0, 0, 0, 1, 1, 1, 2, 2, 2, 3, 3, 3, 4, 4, 4, 4)
        self.same([downs_many(house, state, thing) for thing in (0, 3, 6, 9, 12)], [1, 3, 12, 48, 192])
        for thing in (0, 3, 6, 9, 12):
            moves = asks_of(house, state, thing)
            self.assertEqual(len(moves), downs_many(house, state, thing))
            self.same(moves, [("ask", thing, downs) for downs, _ in asks_by_keepers(house, state, thing)])
        house, state = (7, (1, 2, 3)), (0, 1, 1, 2, 2, 2, 3)
        self.same([downs_many(house, state, thing) for thing in range(7)], [1, 1, 1, 3, 3, 3, 12])

    def test_asked_again(self):
        for house, state, thing in [((4, (1, 2)), (1, 0, 2, 1), 2), ((1, (1,)), (1,), 0), ((3, (2,)), (0, 0, 1), 2)]:
            self.twice(asks_of, house, state, thing)


if __name__ == "__main__":
    unittest.main()
