"""Points [1] to [10]: what the document promises over the whole program."""

import random
import unittest

from floorkeepers.ahead import ahead
from floorkeepers.bestworst import behind_bounds, best_run, worst_run
from floorkeepers.blocks import alike, blocks_of, lies_in, normal_of
from floorkeepers.claims import is_claim_row
from floorkeepers.counts import floor_counts, index_of, state_at, states_with
from floorkeepers.desk import Desk
from floorkeepers.errors import Broken, CannotBe, CannotDo
from floorkeepers.fitting import fits, states_of
from floorkeepers.floors import floors_of, may_be_within, surely_within
from floorkeepers.forms import is_knowledge, is_log, is_run, is_start, is_state
from floorkeepers.hall import Hall
from floorkeepers.housesfor import first_against
from floorkeepers.knownkeepers import is_known_run, known_behind, known_most
from floorkeepers.leading import can_be, first_knowledge, knowledge_behind, words_through
from floorkeepers.live import Live
from floorkeepers.moves import asks_of
from floorkeepers.parting import can_happen, parting_log
from floorkeepers.patterns import as_log, found_behind, patterns_of
from floorkeepers.reader import read_book, read_run
from floorkeepers.reasons import is_reason_against, reason_against, reason_not, reason_within
from floorkeepers.runs import last_use_run
from floorkeepers.showing import is_showing, showing_to, showings_many
from floorkeepers.texts import show_book, show_run
from floorkeepers.unseen import filling_of, floors_behind, hole_floors, is_filling
from floorkeepers.words import is_nested
from floorkeepers.wrong import fewest_wrong, is_mended, wrong_lots
from tests.helper import (BIG, Case, SMALL, all_behind, asks_by_keepers, big_starts, entries_of, first_states,
                          patterns_by_keepers, random_run, some_log, some_row, starts_of)


def states_through(house, start, log):
    """The states at first and behind each entry, by all keepers, up to the first entry that cannot be."""
    rows = [first_states(house, start)]
    for entry in log:
        rows.append(all_behind(house, rows[-1], entry))
        if not rows[-1]:
            return rows[:-1]
    return rows


def hall_led(house, state, run):
    hall = Hall(house, state)
    for move in run:
        hall.do(move)
    return hall


class TestFromTextToText(Case):

    def check(self, house, start, log):
        """All that is told of a log, by all keepers' moves; whether it can be."""
        text = show_book(house, start, log)
        self.same(read_book(text), (house, start, log))
        self.assertTrue(is_start(house, start) and is_log(house, log))
        rows = states_through(house, start, log)
        if len(rows) <= len(log):
            self.check_cannot_be(house, start, log, text, len(rows) - 1)
            return False
        known = Desk(text).live().knowledge()
        self.same(knowledge_behind(house, start, log), known)
        self.same(can_be(house, start, log), True)
        self.same(states_of(house, known), rows[-1], house, start, log)
        self.check_knowledge(house, start, log, known, rows[-1])
        self.check_showings(house, start, log, rows)
        self.check_rows(house, known, rows[-1])
        self.check_holes(house, start, log, rows[-1])
        return True

    def check_cannot_be(self, house, start, log, text, index):
        """[5] and [7] of a log whose entry with this index is the first one that cannot be."""
        self.same([can_be(house, start, log), can_be(house, start, log[:index])], [False, True])
        self.fails(CannotBe, {"index": index}, Desk, text)
        self.same(len(words_through(house, start, log)), index + 1)
        row = reason_against(house, start, log)
        self.assertTrue(is_claim_row(house, start, log, row) and is_reason_against(house, start, log, row))
        self.same(showings_many(house, start, log), 0)
        number, mended = fewest_wrong(house, start, log)
        self.assertTrue(number > 0 and can_be(house, start, mended))
        self.same(is_mended(house, start, log, number, mended), True)
        self.assertIn(number, [len(lot) for lot in wrong_lots(house, start, log)])
        if start == (len(house[1]),) * house[0]:
            self.same(first_against(house[0], house[1], log), index)

    def check_knowledge(self, house, start, log, known, states):
        """[5], [6] and [7] of the knowledge behind a log."""
        self.same(reason_against(house, start, log), None)
        self.same([is_knowledge(house, known), is_nested(first_knowledge(house, start))], [True, True])
        self.same([states_with(house, known, {}), state_at(house, known, len(states) - 1), index_of(house, known, states[0])],
                  [len(states), states[-1], 0])
        for x in range(house[0]):
            counts = [sum(1 for state in states if state[x] == floor) for floor in range(len(house[1]) + 1)]
            self.same(floor_counts(house, known, x), tuple(counts))
            self.same(floors_of(house, known, x), tuple(floor for floor, many in enumerate(counts) if many))
            for floor in range(len(house[1])):
                sure = [surely_within(known, x, floor), not may_be_within(known, x, floor)]
                reasons = [reason_within(house, start, log, x, floor), reason_not(house, start, log, x, floor)]
                self.assertEqual([row is not None for row in reasons], sure)
                self.assertTrue(all(row is None or is_claim_row(house, start, log, row) for row in reasons))

    def check_showings(self, house, start, log, rows):
        """Runs lead to all states behind the log; a hall, and a Live, follow them."""
        for state in rows[-1][:6]:
            told = showing_to(house, start, log, state)
            first, run = told
            self.assertTrue(is_state(house, first) and is_run(house, run) and is_showing(house, start, log, told))
            self.same(read_run(house, show_run(run)), run)
            hall = hall_led(house, first, run)
            self.same([hall.state(), hall.log(), hall.run()], [state, log, run])
            self.assertIn(first, rows[0])
            most = known_most(house, first, log)
            for known in range(len(house[1]) + 1):
                if is_known_run(house, first, known, run):
                    self.assertTrue(known <= most and fits(house, known_behind(house, first, known, log), state))

    def check_rows(self, house, known, states):
        """[9] of a row of asks from now on."""
        row = tuple(range(house[0]))[:3]
        found = sorted(patterns_by_keepers(house, states, row))
        self.same(patterns_of(house, known, row), found)
        for floors in found:
            self.same(can_happen(house, known, as_log(row, floors)), True)
        if is_nested(known):
            bounds = [[found_behind(floors, floor) for floors in found] for floor in range(len(house[1]))]
            self.same(behind_bounds(house, known, row), tuple((min(some), max(some)) for some in bounds))

    def check_holes(self, house, start, log, states):
        """What is told if some results are not."""
        holed = tuple(entry[:2] + (None,) if index % 3 == 1 else entry for index, entry in enumerate(log))
        self.same(is_filling(house, start, holed, log), True)
        self.same(can_be(house, start, filling_of(house, start, holed)), True)
        self.assertTrue(all(log[3 * at + 1][2] in floors for at, floors in enumerate(hole_floors(house, start, holed))))
        for x in range(house[0]):
            self.assertTrue({state[x] for state in states} <= set(floors_behind(house, start, holed, x)))

    def test_small_houses(self):
        dice = random.Random(1)
        told = [0, 0]
        for house in SMALL * 2:
            for start in [dice.choice(starts_of(house)), starts_of(house)[-1]]:
                log, _ = some_log(dice, house, first_states(house, start), 6)
                if log and dice.randrange(2):
                    at = dice.randrange(len(log))
                    log = log[:at] + (dice.choice(entries_of(house)),) + log[at + 1:]
                told[self.check(house, start, log)] += 1
        self.assertGreater(min(told), 15)

    def test_all_logs_of_two_entries(self):
        for house in [(2, (1,)), (2, (1, 1)), (3, (2,))]:
            for start in starts_of(house):
                for one in entries_of(house):
                    if self.check(house, start, (one,)):
                        for other in entries_of(house):
                            self.check(house, start, (one, other))


class TestHallAndLive(Case):

    def test_a_live_follows_a_hall(self):
        dice = random.Random(2)
        for house in [some for some in SMALL if some[0]] + BIG:
            for start, state in self.starts(dice, house):
                hall, live = Hall(house, state), Live(house, start)
                for _ in range(30):
                    self.one_step(dice, house, hall, live)
                    self.assertTrue(fits(house, live.knowledge(), hall.state()))
                    self.same([live.log(), live.knowledge()], [hall.log(), knowledge_behind(house, start, hall.log())])
                    self.assertTrue(all(hall.state()[x] in live.floors(x) for x in range(house[0])))
                self.assertTrue(Desk(show_book(house, start, hall.log())).live() == live)
                self.assertTrue(hall_led(house, state, hall.run()) == hall)

    def starts(self, dice, house):
        if house in BIG:
            return big_starts(dice, house)
        return [(start, dice.choice(first_states(house, start)))
                for start in [dice.choice(starts_of(house)), starts_of(house)[-1]]]

    def one_step(self, dice, house, hall, live):
        how = dice.randrange(8)
        if how == 0 and hall.run():
            hall.back()
            live.back()
        elif how == 1:
            self.both_again(hall, live)
        else:
            x = dice.randrange(house[0])
            move = ("strike", x, ())
            if how > 3:
                move = dice.choice(asks_of(house, hall.state(), x))
            live.enter((move[0], x, hall.do(move)))

    def both_again(self, hall, live):
        errors = []
        for some in (hall, live):
            try:
                some.again()
            except ValueError as error:
                errors.append(error.__class__.__name__)
        self.assertIn(errors, [[], ["Nothing", "Nothing"]])

    def test_duties_keep_what_they_tell(self):
        # Whatever keepers do, a duty that is owed is kept in the hall whose log the Live has.
        dice = random.Random(3)
        for house in [some for some in SMALL if some[0]]:
            state = dice.choice(starts_of(house)[:-1] or starts_of(house))
            hall, live, broken = Hall(house, state), Live(house, state), 0
            for _ in range(30):
                x, floor = dice.randrange(house[0]), dice.randrange(len(house[1]))
                duty = (dice.choice(["within", "beyond"]), x, floor)
                try:
                    live.owe(duty)
                except Broken:
                    broken += 1
                move = dice.choice(asks_of(house, hall.state(), dice.randrange(house[0])))
                try:
                    live.enter((move[0], move[1], hall.state()[move[1]]))
                    hall.do(move)
                except Broken:
                    live.free(dice.choice(live.duties()))
                for word, x, floor in live.duties():
                    self.same(hall.state()[x] <= floor, word == "within")

    def test_keepers_that_are_told_of(self):
        # Runs by last use, by best and by worst keepers are runs of a hall, and each move is one of all keepers'.
        dice = random.Random(4)
        for house in [some for some in SMALL if some[0]] + BIG:
            state = big_starts(dice, house)[0][0] if house in BIG else dice.choice(starts_of(house)[:-1])
            row = some_row(dice, house, 20)
            for run in (last_use_run(house, state, row), best_run(house, state, row)[1], worst_run(house, state, row)[1]):
                hall = Hall(house, state)
                for move in run:
                    self.assertIn(move[2], dict(asks_by_keepers(house, hall.state(), move[1])))
                    hall.do(move)
                self.same(can_be(house, state, hall.log()), True)
                few, many = zip(*behind_bounds(house, first_knowledge(house, state), row))
                found = [found_behind([floor for _, _, floor in hall.log()], floor) for floor in range(len(house[1]))]
                self.assertTrue(all(low <= some <= high for low, some, high in zip(few, found, many)))


class TestTwoLogs(Case):

    def test_alike_from_now_on(self):
        # [8]: by two logs of one house.
        dice = random.Random(5)
        told = {False: 0, True: 0}
        for house in [some for some in SMALL if some[0] > 1] * 6:
            start = dice.choice(starts_of(house) + [starts_of(house)[-1]])
            rows = [some_log(dice, house, first_states(house, start), dice.choice([2, 4])) for _ in range(2)]
            one, other = [knowledge_behind(house, start, log) for log, _ in rows]
            first, second = [states for _, states in rows]
            self.same(alike(one, other), first == second)
            self.same([lies_in(house, one, other), lies_in(house, other, one)],
                      [set(first) <= set(second), set(second) <= set(first)])
            self.same(normal_of(one) == normal_of(other), first == second)
            if sorted(first[0]) != sorted(second[0]):
                continue
            self.same(blocks_of(one) == blocks_of(other), first == second)
            log = parting_log(house, one, other)
            told[log is None] += 1
            self.same(log is None, first == second)
            if log is not None:
                happens = []
                for states in (first, second):
                    for entry in log:
                        states = all_behind(house, states, entry)
                    happens.append(states != [])
                self.same([can_happen(house, one, log), can_happen(house, other, log)], happens)
                self.assertEqual(sorted(happens), [False, True])
        self.assertGreater(min(told.values()), 12)


class TestLarge(Case):

    def test_runs_of_sixty(self):
        dice = random.Random(6)
        for house in BIG:
            for start, state in big_starts(dice, house):
                run, log, last = random_run(dice, house, state, 60)
                self.same(read_book(show_book(house, start, log)), (house, start, log))
                self.same(read_run(house, show_run(run)), run)
                known = knowledge_behind(house, start, log)
                first, found = showing_to(house, start, log, last)
                hall = hall_led(house, first, found)
                self.same([hall.state(), hall.log()], [last, log])
                self.same(state_at(house, known, index_of(house, known, last)), last)
                before = knowledge_behind(house, start, log[:-1])
                back, move = ahead(house, before, log[-1], last)
                self.assertTrue(fits(house, before, back))
                hall = Hall(house, back)
                self.same([hall.do(move), hall.state()], [log[-1][2], last])
                self.fails(CannotDo, {"index": 1}, hall.do, ("ask", 0, (0,) * 9))


if __name__ == "__main__":
    unittest.main()
