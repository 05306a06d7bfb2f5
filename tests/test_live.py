"""Point [37]: a live knowledge."""

import itertools
import random
import unittest

from floorkeepers.desk import Desk
from floorkeepers.errors import Broken, CannotBe, NoDuty, Nothing, Wrong
from floorkeepers.floors import floors_of
from floorkeepers.hall import Hall
from floorkeepers.leading import first_knowledge, knowledge_behind
from floorkeepers.live import Live
from tests.helper import (BIG, Case, HOUSES, all_behind, big_starts, entries_of, exact, first_states, fitting,
                          house_like, odd_values, part_changes, random_run, starts_of)

HOUSE, EMPTY = (4, (1, 1)), (2, 2, 2, 2)
FIRST, SECOND, THIRD = ("ask", 0, 2), ("ask", 1, 2), ("strike", 2, 2)
WITHIN, BEYOND = ("within", 1, 0), ("beyond", 3, 1)


def some_live():
    """FIRST, SECOND, WITHIN, BEYOND were done, one by one."""
    live = Live(HOUSE, EMPTY)
    live.enter(FIRST)
    live.enter(SECOND)
    live.owe(WITHIN)
    live.owe(BEYOND)
    return live


def any_values():
    """Values of every kind of [4], none of which is an entry or a duty."""
    return odd_values() + [Hall(HOUSE, EMPTY), some_live(), Desk("things 0\nrooms 1\nstart"), Nothing(), Broken(WITHIN),
                           "ask 0 2", "x" * 3000, [FIRST], (FIRST,), (FIRST, SECOND), list(FIRST), list(WITHIN),
                           {WITHIN: FIRST}, ("ask", 0), ("ask", 0, 2, ()), ("within", 0), ("within", 0, 0, 0)]


def duties_of(house):
    """All duties of a house, ascending."""
    return list(itertools.product(("beyond", "within"), range(house[0]), range(len(house[1]))))


def kept(states, duty):
    """Whether a duty is kept in all of these states."""
    word, x, floor = duty
    within = [state[x] <= floor for state in states]
    return all(within) if word == "within" else not any(within)


class Model:
    """A live knowledge by other means: all deeds that were, a place among them, and all states that keepers come to."""

    def __init__(self, house, start):
        self.house, self.first = house, first_states(house, start)
        self.deeds, self.at = [], 0

    def log(self):
        return tuple(done for word, done in self.deeds[:self.at] if word == "enter")

    def states(self):
        states = self.first
        for entry in self.log():
            states = all_behind(self.house, states, entry)
        return states

    def duties(self):
        owed = set()
        for word, done in self.deeds[:self.at]:
            if word == "owe":
                owed.add(done)
            if word == "free":
                owed.remove(done)
        return sorted(owed)

    def do(self, word, done):
        self.deeds = self.deeds[:self.at] + [(word, done)]
        self.at += 1


class TestEnter(Case):

    def test_by_hand(self):
        live = Live(HOUSE, EMPTY)
        self.same([live.log(), live.duties(), live.knowledge()], [(), [], first_knowledge(HOUSE, EMPTY)])
        self.same([live.enter(FIRST), live.enter(SECOND), live.log()], [None, None, (FIRST, SECOND)])
        self.same(live.knowledge(), ((1, 0, 2, 3), ((0, 1, 1, 1, 1), (0, 1, 2, 2, 2))))
        self.same([live.floors(x) for x in range(4)], [(1,), (0,), (2,), (2,)])
        live.enter(("ask", 2, 2))
        self.same([live.floors(x) for x in range(4)], [(1, 2), (1, 2), (0,), (2,)])
        live.enter(("strike", 0, 1))
        self.same([live.floors(x) for x in range(4)], [(2,), (2,), (0,), (2,)])
        self.same(live.knowledge()[0], (2, 1, 3, 0))

    def test_starts(self):
        self.same(Live((3, (1, 1)), None).floors(0), (0, 1, 2))
        self.same(Live((3, (1, 1)), (2, 0, 1)).floors(0), (2,))
        live = Live((0, (1, 2)), ())
        self.same([live.knowledge(), live.log(), live.duties()], [((), ((0,), (0,))), (), []])

    def test_entries_that_cannot_be(self):
        live = Live(HOUSE, EMPTY)
        self.fails(CannotBe, {"index": 0}, live.enter, ("ask", 0, 1))
        live.enter(FIRST)
        self.fails(CannotBe, {"index": 1}, live.enter, FIRST)
        live.owe(("within", 0, 0))
        live.enter(("strike", 3, 2))
        # The index counts entries alone, no duties.
        self.fails(CannotBe, {"index": 2}, live.enter, ("strike", 0, 2))
        live.back()
        self.fails(CannotBe, {"index": 1}, live.enter, ("strike", 0, 2))
        self.same([live.log(), live.duties()], [(FIRST,), [("within", 0, 0)]])

    def test_broken_by_entries(self):
        live = some_live()
        # Neither would be kept; the least one is told.
        self.fails(Broken, {"duty": BEYOND}, live.enter, ("ask", 3, 2))
        self.fails(Broken, {"duty": WITHIN}, live.enter, ("ask", 2, 2))
        self.fails(Broken, {"duty": WITHIN}, live.enter, ("strike", 1, 0))
        # One that cannot be is no matter of duties.
        self.fails(CannotBe, {"index": 2}, live.enter, ("ask", 3, 1))
        self.same([live.log(), live.duties()], [(FIRST, SECOND), [BEYOND, WITHIN]])
        self.same([live.enter(("ask", 1, 0)), live.enter(("strike", 3, 2))], [None, None])
        live.free(BEYOND)
        self.fails(Broken, {"duty": WITHIN}, live.enter, ("ask", 3, 2))
        live.free(WITHIN)
        self.same(live.enter(("ask", 3, 2)), None)

    def test_the_least_of_all(self):
        live = Live((3, (3,)), (0, 0, 0))
        duties = [("within", x, 0) for x in (2, 0, 1)]
        for duty in duties:
            live.owe(duty)
        self.same(live.duties(), sorted(duties))
        for x in range(3):
            self.fails(Broken, {"duty": ("within", x, 0)}, live.enter, ("strike", x, 0))
        live = Live((3, (1,)), (0, 1, 1))
        for duty in [("within", 0, 0), ("beyond", 2, 0), ("beyond", 1, 0)]:
            live.owe(duty)
        self.fails(Broken, {"duty": ("beyond", 1, 0)}, live.enter, ("ask", 1, 1))
        self.fails(Broken, {"duty": ("beyond", 2, 0)}, live.enter, ("ask", 2, 1))
        self.fails(Broken, {"duty": ("within", 0, 0)}, live.enter, ("strike", 0, 0))


class TestDuties(Case):

    def test_by_hand(self):
        live = some_live()
        self.same(live.duties(), [BEYOND, WITHIN])
        self.same([live.free(WITHIN), live.duties(), live.owe(WITHIN), live.duties()], [None, [BEYOND], None, [BEYOND, WITHIN]])
        live.duties().clear()
        self.same(live.duties(), [BEYOND, WITHIN])
        self.assertIsNot(live.duties(), live.duties())

    def test_not_kept(self):
        live = Live(HOUSE, EMPTY)
        for log in [(), (FIRST,), (SECOND,), (("ask", 2, 2),)]:
            for entry in log:
                live.enter(entry)
            states = fitting(HOUSE, *live.knowledge())
            for duty in duties_of(HOUSE):
                if kept(states, duty):
                    self.same([live.owe(duty), live.duties(), live.free(duty)], [None, [duty], None])
                else:
                    self.fails(Broken, {"duty": duty}, live.owe, duty)
        # Neither within a floor in all states, nor in none.
        self.fails(Broken, {"duty": ("within", 0, 1)}, live.owe, ("within", 0, 1))
        self.fails(Broken, {"duty": ("beyond", 0, 1)}, live.owe, ("beyond", 0, 1))

    def test_owed_already(self):
        live = some_live()
        live.back()
        live.owe(WITHIN)
        # Nothing was done: again is still let, and there is nothing of it to take back.
        self.same([live.owe(WITHIN), live.again(), live.duties()], [None, None, [BEYOND, WITHIN]])
        live.owe(WITHIN)
        live.owe(BEYOND)
        self.fails(Nothing, {}, live.again)
        live.back()
        live.back()
        self.same([live.duties(), live.log()], [[], (FIRST, SECOND)])
        live.back()
        self.same(live.log(), (FIRST,))

    def test_not_owed(self):
        live = some_live()
        for duty in duties_of(HOUSE):
            if duty not in (WITHIN, BEYOND):
                self.fails(NoDuty, {"duty": duty}, live.free, duty)
        live.free(WITHIN)
        self.fails(NoDuty, {"duty": WITHIN}, live.free, WITHIN)
        live.back()
        self.same(live.free(WITHIN), None)

    def test_free_of_any_value(self):
        live = some_live()
        # Truths are not 1 and 0, lists are no tuples.
        odd = [("within", True, 0), ("within", 1, False), ("within", True, False), ["within", 1, 0], ("beyond", 3, True),
               ("within", "1", 0), ("Within", 1, 0), ("within", 1, 2), ("within", 1, -1), ("within", -3, 0), ("within", 5, 0)]
        for value in any_values() + odd + part_changes(WITHIN) + part_changes(BEYOND):
            if exact(value) not in (exact(WITHIN), exact(BEYOND)):
                with self.assertRaises(NoDuty) as caught:
                    live.free(value)
                self.assertIs(caught.exception.duty, value)
        self.same([live.duties(), live.log()], [[BEYOND, WITHIN], (FIRST, SECOND)])
        self.fails(Nothing, {}, live.again)

    def test_each_duty_of_small_houses(self):
        dice = random.Random(37)
        for house in [(2, (1,)), (3, (1, 1)), (3, (2,)), (2, (1, 1, 1)), (4, (1, 2))]:
            for start in [dice.choice(starts_of(house)), starts_of(house)[-1]]:
                live, states = Live(house, start), first_states(house, start)
                for _ in range(8):
                    for duty in duties_of(house):
                        if kept(states, duty):
                            live.owe(duty)
                        else:
                            self.fails(Broken, {"duty": duty}, live.owe, duty)
                    right = [duty for duty in duties_of(house) if kept(states, duty)]
                    self.same(live.duties(), right)
                    self.each_entry(house, live, states, right)
                    for duty in right:
                        live.free(duty)
                    entry = dice.choice([entry for entry in entries_of(house) if all_behind(house, states, entry)])
                    live.enter(entry)
                    states = all_behind(house, states, entry)

    def each_entry(self, house, live, states, owed):
        """Each entry is led, cannot be, or breaks the least duty that all states behind it do not keep."""
        for entry in entries_of(house):
            behind = all_behind(house, states, entry)
            broken = [duty for duty in owed if not kept(behind, duty)]
            if not behind:
                self.fails(CannotBe, {"index": len(live.log())}, live.enter, entry)
            elif broken:
                self.fails(Broken, {"duty": broken[0]}, live.enter, entry)
            else:
                live.enter(entry)
                self.same(fitting(house, *live.knowledge()), behind)
                live.back()


class TestBackAndAgain(Case):

    def test_all_kinds_of_deeds(self):
        live = some_live()
        live.free(WITHIN)
        live.enter(THIRD)
        told = [((FIRST, SECOND, THIRD), [BEYOND]), ((FIRST, SECOND), [BEYOND]), ((FIRST, SECOND), [BEYOND, WITHIN]),
                ((FIRST, SECOND), [WITHIN]), ((FIRST, SECOND), []), ((FIRST,), []), ((), [])]
        for _ in range(2):
            for log, duties in told:
                self.same([live.log(), live.duties(), live.knowledge()], [log, duties, knowledge_behind(HOUSE, EMPTY, log)])
                if log:
                    self.same(live.back(), None)
            self.fails(Nothing, {}, live.back)
            for log, duties in told[-2::-1]:
                self.same(live.again(), None)
                self.same([live.log(), live.duties(), live.knowledge()], [log, duties, knowledge_behind(HOUSE, EMPTY, log)])
            self.fails(Nothing, {}, live.again)

    def test_nothing_at_first(self):
        live = Live(HOUSE, EMPTY)
        self.fails(Nothing, {}, live.back)
        self.fails(Nothing, {}, live.again)
        live.enter(FIRST)
        self.fails(Nothing, {}, live.again)
        live.back()
        self.fails(Nothing, {}, live.back)
        live.again()
        self.fails(Nothing, {}, live.again)
        self.same(live.log(), (FIRST,))

    def test_another_deed_takes_again_away(self):
        for deed in ["enter", "owe", "free"]:
            live = some_live()
            live.back()
            live.back()
            live.owe(BEYOND)
            live.back()
            live.again()
            live.enter(THIRD)
            live.back()
            if deed == "enter":
                live.enter(("strike", 3, 2))
            elif deed == "owe":
                live.owe(("beyond", 2, 0))
            else:
                live.free(BEYOND)
            self.fails(Nothing, {}, live.again)
            live.back()
            live.again()
            self.fails(Nothing, {}, live.again)
        # Not by again.
        live = some_live()
        for _ in range(4):
            live.back()
        for _ in range(4):
            live.again()
        self.same([live.log(), live.duties()], [(FIRST, SECOND), [BEYOND, WITHIN]])

    def test_refused_calls_change_nothing(self):
        live = some_live()
        live.back()
        live.back()
        twin = live.twin()
        told = [live.log(), live.duties(), live.knowledge()]
        for call, error, given in [(live.enter, CannotBe, FIRST), (live.enter, Wrong, None), (live.owe, Broken, ("within", 3, 0)),
                                   (live.owe, Wrong, ("within", 3, 2)), (live.free, NoDuty, WITHIN), (live.free, NoDuty, [])]:
            with self.assertRaises(error):
                call(given)
            self.same([live.log(), live.duties(), live.knowledge()], told)
        self.assertTrue(live == twin)
        live.again()
        live.again()
        self.same(live.duties(), [BEYOND, WITHIN])
        # Broken by an entry, too.
        live.back()
        self.fails(Broken, {"duty": WITHIN}, live.enter, ("ask", 2, 2))
        live.again()
        self.same(live.duties(), [BEYOND, WITHIN])

    def test_against_a_model(self):
        dice = random.Random(38)
        for house in HOUSES * 2:
            start = dice.choice(starts_of(house) + [starts_of(house)[-1]])
            live, model, twins = Live(house, start), Model(house, start), []
            for _ in range(40):
                self.one_step(dice, live, model)
                self.same([live.log(), live.duties()], [model.log(), model.duties()])
                self.assertEqual(fitting(house, *live.knowledge()), model.states())
                twins.append((live.twin(), live.log(), live.duties(), live.knowledge()))
            for twin, log, duties, knowledge in twins:
                self.same([twin.log(), twin.duties(), twin.knowledge()], [log, duties, knowledge])

    def one_step(self, dice, live, model):
        house, states, how = model.house, model.states(), dice.randrange(9)
        if how < 2 or house[0] == 0:
            self.step(model.at > 0, live.back, model, -1)
        elif how < 4:
            self.step(model.at < len(model.deeds), live.again, model, 1)
        elif how == 4 and model.duties():
            duty = dice.choice(model.duties())
            self.same(live.free(duty), None)
            model.do("free", duty)
        elif how < 7:
            duty = dice.choice(duties_of(house))
            if not kept(states, duty):
                self.fails(Broken, {"duty": duty}, live.owe, duty)
            else:
                self.same(live.owe(duty), None)
                if duty not in model.duties():
                    model.do("owe", duty)
        else:
            self.enter(dice, live, model)

    def enter(self, dice, live, model):
        x, states = dice.randrange(model.house[0]), model.states()
        entry = (dice.choice(["ask", "ask", "strike"]), x, dice.choice(states)[x])
        behind = all_behind(model.house, states, entry)
        broken = [duty for duty in model.duties() if not kept(behind, duty)]
        if broken:
            self.fails(Broken, {"duty": broken[0]}, live.enter, entry)
        else:
            self.same(live.enter(entry), None)
            model.do("enter", entry)

    def step(self, can, call, model, way):
        if can:
            self.same(call(), None)
            model.at += way
        else:
            self.fails(Nothing, {}, call)


class TestTwins(Case):

    def test_twins_part(self):
        live = some_live()
        live.back()
        twin = live.twin()
        self.assertIsInstance(twin, Live)
        self.assertIsNot(twin, live)
        self.assertTrue(twin == live)
        # A twin can take back, and do again, what the first one could.
        twin.again()
        self.same([twin.duties(), live.duties()], [[BEYOND, WITHIN], [WITHIN]])
        self.assertFalse(twin == live)
        twin.enter(THIRD)
        self.same([twin.log(), live.log()], [(FIRST, SECOND, THIRD), (FIRST, SECOND)])
        self.same([twin.knowledge() == live.knowledge(), live.knowledge()],
                  [False, knowledge_behind(HOUSE, EMPTY, (FIRST, SECOND))])
        live.free(WITHIN)
        self.same([twin.duties(), live.duties()], [[BEYOND, WITHIN], []])
        for _ in range(5):
            twin.back()
        self.fails(Nothing, {}, twin.back)
        self.same([twin.log(), twin.duties(), live.log()], [(), [], (FIRST, SECOND)])
        self.fails(Nothing, {}, live.again)
        for _ in range(5):
            twin.again()
        self.same([twin.log(), twin.duties()], [(FIRST, SECOND, THIRD), [BEYOND, WITHIN]])
        live.back()
        self.same(live.duties(), [WITHIN])

    def test_twins_share_nothing_that_was_taken_back(self):
        live = some_live()
        twin = live.twin()
        live.back()
        self.fails(Nothing, {}, twin.again)
        other = live.twin()
        other.back()
        other.back()
        live.again()
        self.fails(Nothing, {}, live.again)
        for _ in range(3):
            other.again()
        self.assertTrue(live == twin and other == live)
        for some in (live, twin, other):
            self.same([some.log(), some.duties()], [(FIRST, SECOND), [BEYOND, WITHIN]])

    def equal(self, one, other, want):
        self.same(one == other, want)
        self.same(other == one, want)
        self.same(one != other, not want)

    def test_equal(self):
        self.equal(Live(HOUSE, EMPTY), Live(HOUSE, EMPTY), True)
        self.equal(some_live(), some_live(), True)
        self.equal(Live(HOUSE, EMPTY), some_live(), False)
        self.equal(Live(HOUSE, EMPTY), Live(HOUSE, (2, 2, 2, 1)), False)
        self.equal(Live(HOUSE, EMPTY), Live(HOUSE, None), False)
        self.equal(Live(HOUSE, EMPTY), Live((4, (1, 2)), EMPTY), False)
        self.equal(Live((0, (1,)), ()), Live((0, (2,)), ()), False)
        # Duties count, in whatever order they came to be owed; what was taken back does not, nor how it came.
        live = Live(HOUSE, EMPTY)
        live.owe(("beyond", 3, 1))
        self.equal(live, Live(HOUSE, EMPTY), False)
        live.enter(FIRST)
        live.enter(SECOND)
        self.equal(live, some_live(), False)
        live.owe(("within", 1, 1))
        live.owe(WITHIN)
        self.equal(live, some_live(), False)
        live.free(("within", 1, 1))
        self.equal(live, some_live(), True)
        live.back()
        self.equal(live, some_live(), False)
        live.again()
        self.equal(live, some_live(), True)
        live.enter(THIRD)
        live.back()
        self.equal(live, some_live(), True)

    def test_equal_by_log(self):
        # The same knowledge by other logs is not enough.
        one, other = Live((3, (3,)), (0, 0, 0)), Live((3, (3,)), (0, 0, 0))
        one.enter(("ask", 0, 0))
        self.same(one.knowledge(), other.knowledge())
        self.equal(one, other, False)

    def test_equal_to_nothing_else(self):
        live = some_live()
        for thing in any_values() + [HOUSE, EMPTY, (HOUSE, EMPTY), live.log(), live.duties(), live.knowledge(), live.log]:
            if not isinstance(thing, Live):
                self.equal(live, thing, False)
        self.equal(Live(HOUSE, EMPTY), Hall(HOUSE, EMPTY), False)


class TestWrong(Case):

    def test_houses(self):
        wrong = [house for house in any_values() + part_changes(HOUSE) if not house_like(house)]
        for house in wrong + [(4, (0, 1)), (-1, (1,)), (True, (1,)), (4, (True, 2)), (4, ()), [4, (1, 1)], (4, [1, 1])]:
            for start in (EMPTY, (), None, house):
                self.fails(Wrong, {"place": 0}, Live, house, start)

    def test_starts(self):
        right = [exact(start) for start in starts_of(HOUSE)]
        for start in any_values() + part_changes(EMPTY) + [(0, 0, 2, 2), (3, 2, 2, 2), HOUSE, ()]:
            if exact(start) not in right:
                self.fails(Wrong, {"place": 1}, Live, HOUSE, start)
        # None is no start of a house with fewer things than rooms.
        self.fails(Wrong, {"place": 1}, Live, (1, (1, 1)), None)
        self.same(Live((2, (1, 1)), None).log(), ())
        self.fails(Wrong, {"place": 1}, Live, (10 ** 39, (1,)), (0, 1))

    def test_entries(self):
        live = some_live()
        entries = [exact(entry) for entry in entries_of(HOUSE)]
        odd = [("ask", True, 2), ("ask", 0, True), ("ask", 4, 2), ("ask", 0, 3), ("ask", -1, 2), ("ask", 0, -1), WITHIN,
               ("ask", 0, ()), ("owe", 0, 0), ("ask", 0, None), ["ask", 0, 2]]
        for entry in any_values() + part_changes(FIRST) + part_changes(("strike", 1, 0)) + odd:
            if exact(entry) not in entries:
                self.fails(Wrong, {"place": 0}, live.enter, entry)
        self.same([live.log(), live.duties()], [(FIRST, SECOND), [BEYOND, WITHIN]])

    def test_duties(self):
        live = some_live()
        live.back()
        duties = [exact(duty) for duty in duties_of(HOUSE)]
        # OUT is no floor of a duty.
        odd = [("within", 1, 2), ("beyond", 1, 2), ("within", 4, 0), ("within", -1, 0), ("within", 1, -1), FIRST,
               ("within", True, 0), ("within", 1, False), ("ask", 1, 0), ("Within", 1, 0), ["within", 1, 0]]
        for duty in any_values() + part_changes(WITHIN) + part_changes(BEYOND) + odd:
            if exact(duty) not in duties:
                self.fails(Wrong, {"place": 0}, live.owe, duty)
        self.same([live.log(), live.duties()], [(FIRST, SECOND), [WITHIN]])
        live.again()
        self.same(live.duties(), [BEYOND, WITHIN])


class TestLarge(Case):

    def test_long_logs(self):
        dice = random.Random(39)
        for house in BIG:
            for start, state in big_starts(dice, house):
                log = random_run(dice, house, state, 60)[1]
                live = Live(house, start)
                for index, entry in enumerate(log):
                    live.enter(entry)
                    self.same(live.log(), log[:index + 1])
                known = knowledge_behind(house, start, log)
                self.same(live.knowledge(), known, house, start, log)
                self.same([live.floors(x) for x in range(house[0])], [floors_of(house, known, x) for x in range(house[0])])
                for _ in range(60):
                    live.back()
                self.same([live.log(), live.knowledge()], [(), first_knowledge(house, start)])
                for _ in range(60):
                    live.again()
                self.same([live.log(), live.knowledge()], [log, known], house, start)
                self.assertTrue(live == live.twin())

    def test_many_duties(self):
        house = (16, (3, 3, 3, 3))
        state = (0, 0, 0, 1, 1, 1, 2, 2, 2, 3, 3, 3, 4, 4, 4, 4)
        live = Live(house, state)
        owed = []
        for word, x, floor in reversed(duties_of(house)):
            if (state[x] <= floor) == (word == "within"):
                live.owe((word, x, floor))
                owed.append((word, x, floor))
        self.same(live.duties(), sorted(owed))
        self.fails(Broken, {"duty": ("beyond", 12, 0)}, live.enter, ("ask", 12, 4))
        self.same(live.enter(("ask", 1, 0)), None)


if __name__ == "__main__":
    unittest.main()
