"""The examples of the document that need no more than what is written by now."""

import unittest

from floorkeepers.forms import is_knowledge, is_move, is_start, is_state
from floorkeepers.hall import Hall
from floorkeepers.houses import all_states, filled_up, rooms_within, sizes_of, things_on, things_within
from floorkeepers.moves import asks_of, can_do, done, downs_many
from floorkeepers.reader import read_book, read_run
from floorkeepers.runs import come_to, last_use_run, log_of, ran, worth_run
from floorkeepers.texts import show_book, show_run
from floorkeepers.words import is_nested, known_sizes, tightened
from tests.helper import Case


class TestExamples(Case):

    def test_houses(self):
        house, state = (4, (1, 2)), (1, 0, 2, 1)
        self.same([rooms_within(house), sizes_of(house, state), things_on(house, state, 2),
                   things_within(house, state, 1)], [(1, 3), (1, 3), (2,), (0, 1, 3)])
        self.same([is_state(house, (0, 0, 2, 2)), is_start(house, None), is_start((2, (1, 2)), None),
                   filled_up(house, state, 1)], [False, True, False, True])
        self.same([all_states((2, (1, 1)), (1, 1)), all_states((2, (1, 1)), (0, 2)),
                   is_move(house, ("ask", 2, (2, 2)))], [[(0, 2), (2, 0)], [], True])
        self.same(is_knowledge((2, (1, 1)), ((0, 1), ((0, 1, 1), (0, 0, 1)))), False)

    def test_texts(self):
        house, state = (4, (1, 2)), (1, 0, 2, 1)
        text = show_book(house, state, (("ask", 2, 2), ("strike", 0, 1)))
        self.same(text, "things 4\nrooms 1 2\nstart 1 0 out 1\nask 2 out\nstrike 0 1")
        self.same(read_book(text) == (house, state, (("ask", 2, 2), ("strike", 0, 1))), True)
        self.same(read_book("things 0\n\nrooms 3\nstart"), ((0, (3,)), (), ()))
        self.same([show_run((("ask", 2, (1, 0)), ("strike", 3, ()))), read_run(house, " ask 2 down 1 0")],
                  ["ask 2 down 1 0\nstrike 3", (("ask", 2, (1, 0)),)])

    def test_moves(self):
        house, state = (4, (1, 2)), (1, 0, 2, 1)
        self.same(asks_of(house, state, 2), [("ask", 2, (1, 0)), ("ask", 2, (1, 1)), ("ask", 2, (1, 3))])
        self.same([downs_many(house, state, 3), asks_of(house, state, 3), can_do(house, state, ("ask", 2, (2, 1)))],
                  [1, [("ask", 3, (1,))], False])
        self.same([done(house, state, ("ask", 2, (1, 1))), done(house, state, ("strike", 1, ()))],
                  [(1, 2, 0, 1), (1, 2, 2, 1)])

    def test_hall(self):
        hall = Hall((4, (1, 2)), (1, 0, 2, 1))
        self.same([hall.do(("ask", 2, (1, 0))), hall.state(), hall.do(("strike", 1, ())), hall.log(), hall.back(),
                   hall.run()],
                  [2, (2, 1, 0, 1), 1, (("ask", 2, 2), ("strike", 1, 1)), None, (("ask", 2, (1, 0)),)])

    def test_runs(self):
        house, state = (4, (1, 2)), (1, 0, 2, 1)
        self.same([last_use_run(house, state, (2, 0)), worth_run(house, state, (2, 0), (5, 1, 2, 9))],
                  [(("ask", 2, (1, 3)), ("ask", 0, (2,))), (("ask", 2, (1, 1)), ("ask", 0, (2,)))])
        self.same([ran(house, state, last_use_run(house, state, (2, 0))), come_to(house, state, ("ask", 3, 1)),
                   come_to(house, state, ("ask", 3, 2))], [(0, 1, 1, 2), [(1, 1, 2, 0)], []])
        self.same(log_of(house, state, last_use_run(house, state, (2, 0))), (("ask", 2, 2), ("ask", 0, 1)))

    def test_words(self):
        known = ((2, 1, 0, 3), ((0, 1, 1, 1, 1), (0, 1, 1, 2, 2)))
        self.same([known_sizes(known), is_nested(known)], [(1, 2), True])
        self.same([tightened(((0, 0, 1), (0, 0, 0)), (1, 1)), tightened(((0, 0, 0), (0, 0, 0)), (2, 2)),
                   tightened(((0, 2),), (1,))], [((0, 0, 1), (0, 0, 1)), ((0, 1, 2), (0, 1, 2)), None])


if __name__ == "__main__":
    unittest.main()
