"""The examples of the document."""

import unittest

from floorkeepers.ahead import ahead
from floorkeepers.bestworst import behind_bounds, best_run, pattern_with, turn_patterns
from floorkeepers.blocks import alike, blocks_of, joint, lies_in, normal_of
from floorkeepers.claims import follows, greatest_least, is_claim_row
from floorkeepers.counts import floor_counts, index_of, lot_counts, state_at, states_with
from floorkeepers.desk import Desk
from floorkeepers.fitting import back_state, fits, front_state, states_of
from floorkeepers.floors import barred_things, floors_of, may_be_within, sure_things, surely_within
from floorkeepers.forms import is_knowledge, is_move, is_start, is_state
from floorkeepers.hall import Hall
from floorkeepers.houses import all_states, filled_up, rooms_within, sizes_of, things_on, things_within
from floorkeepers.housesfor import all_houses, first_against, houses_for
from floorkeepers.knownkeepers import is_known_run, known_behind, known_can_be, known_most
from floorkeepers.leading import can_be, first_knowledge, knowledge_behind, led
from floorkeepers.live import Live
from floorkeepers.lots import least_within, most_within, pair_floors, state_for
from floorkeepers.moves import asks_of, can_do, done, downs_many
from floorkeepers.parting import can_happen, naming_log, parting_log
from floorkeepers.patterns import as_log, found_behind, greatest_pattern, is_pattern, least_pattern, patterns_of
from floorkeepers.reader import read_book, read_run
from floorkeepers.reasons import is_reason_against, reason_against, reason_not, reason_within
from floorkeepers.runs import come_to, last_use_run, log_of, ran, worth_run
from floorkeepers.showing import is_showing, showing_to, showing_with, showings_many
from floorkeepers.texts import show_book, show_run
from floorkeepers.unseen import filling_of, floors_behind, hole_floors, is_filling, knowledges_for
from floorkeepers.words import is_nested, known_sizes, tightened
from floorkeepers.wrong import fewest_wrong, is_mended, wrong_lots
from tests.helper import Case


class TestExamples(Case):

    def test_houses(self):
        house, state = (4, (1, 2)), (1, 0, 2, 1)
        self.same([rooms_within(house), sizes_of(house, state), things_on(house, state, 2),
                   things_within(house, state, 1)], [(1, 3), (1, 3), (2,), (0, 1, 3)])
        self.same([is_state(house, (0, 0, 2, 2)), is_start(house, None), is_start((2, (1, 2)), None),
                   filled_up(house, state, 1)], [False, True, False, True])
        self.same([all_states((2, (1, 1)), (1, 1)), all_states((2, (1, 1)), (0, 2)),
                   is_move(house, ("ask", 2, (2, 2)))], [[(0, 2), (2, 0)], [], True])
        self.same(is_knowledge((2, (1, 1)), ((0, 1), ((0, 1, 1), (0, 0, 1)))), False)

    def test_texts(self):
        house, state = (4, (1, 2)), (1, 0, 2, 1)
        text = show_book(house, state, (("ask", 2, 2), ("strike", 0, 1)))
        self.same(text, "things 4\nrooms 1 2\nstart 1 0 out 1\nask 2 out\nstrike 0 1")
        self.same(read_book(text) == (house, state, (("ask", 2, 2), ("strike", 0, 1))), True)
        self.same(read_book("things 0\n\nrooms 3\nstart"), ((0, (3,)), (), ()))
        self.same([show_run((("ask", 2, (1, 0)), ("strike", 3, ()))), read_run(house, " ask 2 down 1 0")],
                  ["ask 2 down 1 0\nstrike 3", (("ask", 2, (1, 0)),)])

    def test_moves(self):
        house, state = (4, (1, 2)), (1, 0, 2, 1)
        self.same(asks_of(house, state, 2), [("ask", 2, (1, 0)), ("ask", 2, (1, 1)), ("ask", 2, (1, 3))])
        self.same([downs_many(house, state, 3), asks_of(house, state, 3), can_do(house, state, ("ask", 2, (2, 1)))],
                  [1, [("ask", 3, (1,))], False])
        self.same([done(house, state, ("ask", 2, (1, 1))), done(house, state, ("strike", 1, ()))],
                  [(1, 2, 0, 1), (1, 2, 2, 1)])

    def test_hall(self):
        hall = Hall((4, (1, 2)), (1, 0, 2, 1))
        self.same([hall.do(("ask", 2, (1, 0))), hall.state(), hall.do(("strike", 1, ())), hall.log(), hall.back(),
                   hall.run()],
                  [2, (2, 1, 0, 1), 1, (("ask", 2, 2), ("strike", 1, 1)), None, (("ask", 2, (1, 0)),)])

    def test_runs(self):
        house, state = (4, (1, 2)), (1, 0, 2, 1)
        self.same([last_use_run(house, state, (2, 0)), worth_run(house, state, (2, 0), (5, 1, 2, 9))],
                  [(("ask", 2, (1, 3)), ("ask", 0, (2,))), (("ask", 2, (1, 1)), ("ask", 0, (2,)))])
        self.same([ran(house, state, last_use_run(house, state, (2, 0))), come_to(house, state, ("ask", 3, 1)),
                   come_to(house, state, ("ask", 3, 2))], [(0, 1, 1, 2), [(1, 1, 2, 0)], []])
        self.same(log_of(house, state, last_use_run(house, state, (2, 0))), (("ask", 2, 2), ("ask", 0, 1)))

    def test_words(self):
        known = ((2, 1, 0, 3), ((0, 1, 1, 1, 1), (0, 1, 1, 2, 2)))
        self.same([known_sizes(known), is_nested(known)], [(1, 2), True])
        self.same([tightened(((0, 0, 1), (0, 0, 0)), (1, 1)), tightened(((0, 0, 0), (0, 0, 0)), (2, 2)),
                   tightened(((0, 2),), (1,))], [((0, 0, 1), (0, 0, 1)), ((0, 1, 2), (0, 1, 2)), None])

    def test_leading_and_fitting(self):
        house, empty = (4, (1, 1)), (2, 2, 2, 2)
        self.same(first_knowledge(house, empty), ((0, 1, 2, 3), ((0, 0, 0, 0, 0), (0, 0, 0, 0, 0))))
        log = (("ask", 0, 2), ("ask", 1, 2), ("ask", 2, 2))
        self.same([knowledge_behind(house, empty, log[:2]), knowledge_behind(house, empty, log)],
                  [((1, 0, 2, 3), ((0, 1, 1, 1, 1), (0, 1, 2, 2, 2))),
                   ((2, 1, 0, 3), ((0, 1, 1, 1, 1), (0, 1, 1, 2, 2)))])
        known = knowledge_behind(house, empty, log)
        self.same([states_of(house, known), known_sizes(known), is_nested(known), front_state(house, known),
                   back_state(house, known)],
                  [[(1, 2, 0, 2), (2, 1, 0, 2)], (1, 2), True, (2, 1, 0, 2), (1, 2, 0, 2)])
        self.same([can_be(house, empty, log + (("ask", 2, 1),)), led(house, known, ("strike", 0, 1))],
                  [False, ((2, 1, 3, 0), ((0, 1, 1, 1, 1), (0, 1, 1, 1, 1)))])
        self.same(first_knowledge((3, (1, 1)), None), ((0, 1, 2), ((0, 0, 0, 1), (0, 0, 1, 2))))
        self.same([fits(house, known, state) for state in [(1, 2, 0, 2), (2, 1, 0, 2), (2, 2, 0, 1)]],
                  [True, True, False])

    def test_floors_and_lots(self):
        house, known = (4, (1, 1)), ((2, 1, 0, 3), ((0, 1, 1, 1, 1), (0, 1, 1, 2, 2)))
        self.same([floors_of(house, known, thing) for thing in range(4)], [(1, 2), (1, 2), (0,), (2,)])
        self.same([sure_things(known, 0), sure_things(known, 1), barred_things(known, 0), barred_things(known, 1)],
                  [(2,), (2,), (0, 1, 3), (3,)])
        self.same([surely_within(known, 1, 1), may_be_within(known, 1, 1), may_be_within(known, 1, 0)],
                  [False, True, False])
        self.same([state_for(house, known, {0: 1}), state_for(house, known, {}), state_for(house, known, {0: 1, 1: 1})],
                  [(1, 2, 0, 2), (2, 1, 0, 2), None])
        self.same([pair_floors(house, known, 0, 1), pair_floors(house, known, 2, 3)], [[(1, 2), (2, 1)], [(0, 2)]])
        self.same([least_within(house, known, (0, 2), 1), most_within(house, known, (0, 2), 1),
                   least_within(house, known, (), 0)[0]], [(1, (2, 1, 0, 2)), (2, (1, 2, 0, 2)), 0])

    def test_ahead_and_showing(self):
        house, empty = (3, (1, 1)), (2, 2, 2)
        log = (("ask", 0, 2), ("ask", 1, 2), ("ask", 2, 2))
        known = knowledge_behind(house, empty, log[:2])
        self.same([known, ahead(house, known, log[2], (2, 1, 0)), ahead(house, known, log[2], (1, 2, 0))],
                  [((1, 0, 2), ((0, 1, 1, 1), (0, 1, 2, 2))), ((1, 0, 2), ("ask", 2, (1, 0))),
                   ((1, 0, 2), ("ask", 2, (1, 1)))])
        self.same(showing_to(house, empty, log, (2, 1, 0)),
                  ((2, 2, 2), (("ask", 0, ()), ("ask", 1, (0,)), ("ask", 2, (1, 0)))))
        self.same([showing_with(house, empty, log, {0: 0}), showings_many(house, empty, log),
                   showings_many(house, None, log)], [None, 2, 4])
        self.same(is_showing(house, empty, log[:1], (empty, (("ask", 0, ()),))), True)

    def test_claims_and_reasons(self):
        house, empty = (4, (1, 1)), (2, 2, 2, 2)
        log = (("ask", 0, 2), ("ask", 1, 2), ("ask", 2, 2))
        self.same([greatest_least(house, empty, log, 6), reason_against(house, empty, log),
                   reason_within(house, empty, log, 2, 0)],
                  [((0, 1, 1, 1, 1), (0, 1, 1, 2, 2)), None, ((6, 0, 1, 1),)])
        more = log + (("ask", 2, 1),)
        self.same([follows(house, empty, more, (6, 0, 1, 1), (7, 0, 0, 1)), reason_against(house, empty, more)],
                  [True, ((6, 0, 1, 1), (7, 0, 0, 1))])
        self.same([is_claim_row(house, empty, log, ((6, 0, 1, 1), (6, 1, 1, 1), (6, 1, 2, 1))),
                   is_claim_row(house, empty, log, ((6, 1, 2, 2),))], [True, False])
        self.same([reason_not(house, empty, log, 1, 0), reason_not(house, empty, log, 1, 1),
                   reason_within(house, empty, log, 0, 1)], [((6, 0, 1, 1),), None, None])
        self.same(is_reason_against(house, empty, more, ((6, 0, 1, 1),)), False)

    def test_blocks(self):
        house, known = (4, (1, 1)), ((2, 1, 0, 3), ((0, 1, 1, 1, 1), (0, 1, 1, 2, 2)))
        self.same(blocks_of(known), ((((2,), 1),), (((2,), 1), ((0, 1), 2))))
        self.same([normal_of(known)[0], alike(known, ((2, 0, 1, 3), known[1])),
                   alike(known, ((2, 0, 3, 1), known[1]))], [(2, 0, 1, 3), True, False])
        sharp = ((2, 1, 0, 3), ((0, 1, 1, 1, 1), (0, 1, 2, 2, 2)))
        self.same([blocks_of(sharp)[1], lies_in(house, sharp, known), lies_in(house, known, sharp),
                   joint(house, known, sharp) == sharp], [(((1, 2), 2),), True, False, True])

    def test_parting(self):
        house, known = (4, (1, 1)), ((2, 1, 0, 3), ((0, 1, 1, 1, 1), (0, 1, 1, 2, 2)))
        sharp = ((2, 1, 0, 3), ((0, 1, 1, 1, 1), (0, 1, 2, 2, 2)))
        self.same([naming_log(house, (1, 2, 0, 2)), parting_log(house, known, known)],
                  [(("ask", 2, 0), ("ask", 0, 1)), None])
        self.same([can_happen(house, some, (("ask", 2, 0), ("ask", 0, 1))) for some in (known, sharp)], [True, False])

    def test_counts(self):
        house, empty = (4, (1, 1)), (2, 2, 2, 2)
        known = knowledge_behind(house, empty, (("ask", 0, 2), ("ask", 1, 2), ("ask", 2, 2)))
        self.same([states_with(house, known, {}), states_with(house, known, {0: 1, 3: 2}),
                   states_with(house, known, {0: 1, 1: 1})], [2, 1, 0])
        self.same([floor_counts(house, known, 1), lot_counts(house, known, (0, 1), 1), lot_counts(house, known, (), 0)],
                  [(0, 1, 1), (0, 2, 0), (2,)])
        self.same([state_at(house, known, 0), index_of(house, known, (2, 1, 0, 2))], [(1, 2, 0, 2), 1])
        self.same(states_with((16, (3, 3, 3, 3)), first_knowledge((16, (3, 3, 3, 3)), None), {}), 672672000)

    def test_patterns_and_bestworst(self):
        house, empty = (4, (1, 1)), (2, 2, 2, 2)
        known = knowledge_behind(house, empty, as_log((0, 1, 2), (2, 2, 2)))
        self.same([patterns_of(house, known, (0, 1)), least_pattern(house, known, (0, 1)),
                   greatest_pattern(house, known, (0, 1))], [[(1, 2), (2, 1), (2, 2)], (1, 2), (2, 2)])
        self.same([behind_bounds(house, known, (0, 1)), found_behind((2, 1), 1),
                   pattern_with(house, known, (0, 1), 1, 3)], [((2, 2), (1, 2)), 1, None])
        self.same([turn_patterns(house, known, (0, 1)), is_pattern(house, known, (0, 1), (1, 1)),
                   patterns_of(house, known, ())], [[(1, 2), (2, 1), (2, 2)], False, [()]])
        self.same(best_run(house, empty, (0, 1)), ((2, 2, 2, 2), (("ask", 0, ()), ("ask", 1, (0,)))))

    def test_housesfor(self):
        log = (("ask", 0, 2), ("ask", 1, 2), ("ask", 0, 1), ("ask", 2, 2), ("ask", 1, 2))
        self.same([houses_for(3, 2, log), houses_for(3, 2, (("ask", 0, 2), ("ask", 0, 2))),
                   first_against(3, (1, 2), log)], [[(3, (1, 1))], [], 4])
        self.same([len(all_houses(3, 1)), len(all_houses(3, 4)),
                   houses_for(2, 1, (("ask", 0, 1), ("ask", 1, 1), ("ask", 0, 0)))[:2]], [8, 70, [(2, (2,)), (2, (3,))]])

    def test_knownkeepers(self):
        house, empty = (4, (1, 1)), (2, 2, 2, 2)
        log = (("ask", 0, 2), ("ask", 1, 2), ("ask", 2, 2))
        self.same(known_behind(house, empty, 2, log), ((2, 1, 0, 3), ((0, 1, 1, 1, 1), (0, 1, 2, 2, 2))))
        self.same([known_most(house, empty, log + (("ask", x, 1),)) for x in (0, 1, 2)], [1, 2, None])
        self.same([known_can_be(house, empty, 2, log),
                   is_known_run(house, (1, 0, 2, 2), 2, (("ask", 2, (1, 1)),))], [True, False])

    def test_unseen_and_wrong(self):
        house, empty = (4, (1, 1)), (2, 2, 2, 2)
        log = (("ask", 0, 2), ("ask", 1, 2), ("ask", 2, None), ("ask", 0, None))
        self.same(knowledges_for(house, empty, log), [((0, 2, 1, 3), ((0, 1, 1, 1, 1), (0, 1, 1, 2, 2))),
                                                      ((0, 2, 1, 3), ((0, 1, 1, 1, 1), (0, 1, 2, 2, 2)))])
        self.same([hole_floors(house, empty, log), hole_floors(house, empty, log + (("ask", 1, 1),)),
                   floors_behind(house, empty, log, 2)], [((2,), (1, 2)), ((2,), (2,)), (1, 2)])
        self.same(filling_of(house, empty, log + (("ask", 1, 1),)),
                  (("ask", 0, 2), ("ask", 1, 2), ("ask", 2, 2), ("ask", 0, 2), ("ask", 1, 1)))
        bad = (("ask", 0, 2), ("ask", 1, 2), ("ask", 0, 2))
        self.same([wrong_lots(house, empty, bad), fewest_wrong(house, empty, bad), wrong_lots(house, empty, bad[:2])],
                  [[(2,)], (1, (("ask", 0, 2), ("ask", 1, 2), ("ask", 0, 1))), [()]])
        self.same([is_filling(house, empty, log, bad), is_mended(house, empty, bad, 0, bad),
                   is_mended(house, empty, bad[:2], 0, bad[:2])], [False, False, True])

    def test_live(self):
        live = Live((4, (1, 1)), (2, 2, 2, 2))
        self.same([live.enter(("ask", 0, 2)), live.enter(("ask", 1, 2)), live.owe(("within", 1, 0)), live.floors(0)],
                  [None, None, None, (1,)])
        self.same([live.knowledge()[0], live.duties(), live.free(("within", 1, 0)), live.back(), live.duties()],
                  [(1, 0, 2, 3), [("within", 1, 0)], None, None, [("within", 1, 0)]])
        self.same([live.log(), live.twin() == live, live.back(), live.duties(), live.log()],
                  [(("ask", 0, 2), ("ask", 1, 2)), True, None, [], (("ask", 0, 2), ("ask", 1, 2))])

    def test_desk(self):
        desk = Desk("things 4\nrooms 1 1\nstart out out out out\nask 0 out")
        self.same([desk.execute(" ask 1 out"), desk.execute("ask 2 out"), desk.execute("floors 1"),
                   desk.execute("word 1")], [[], [], ["1", "out"], ["0", "1", "1", "2", "2"]])
        self.same([desk.execute("owe within 2 0"), desk.execute("duties"), desk.execute("order"),
                   desk.execute("book")[2:4]],
                  [[], ["within 2 0"], ["2", "1", "0", "3"], ["start out out out out", "ask 0 out"]])


if __name__ == "__main__":
    unittest.main()
