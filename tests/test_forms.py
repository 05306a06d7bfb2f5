"""Point [12]: forms."""

import copy
import itertools
import unittest

from floorkeepers import forms
from floorkeepers.errors import Nothing, Wrong
from tests.helper import (Case, HOUSES, all_words, exact, fitting, house_like, number, odd_values, part_changes,
                          row_of, small_houses, states_by_counting, tight)


def state_like(house, thing):
    if not row_of(thing, number) or len(thing) != house[0]:
        return False
    free = list(house[1]) + [house[0]]
    for floor in thing:
        if floor not in range(len(free)) or free[floor] == 0:
            return False
        free[floor] -= 1
    return True


def start_like(house, thing):
    return house[0] - sum(house[1]) >= 0 if thing is None else state_like(house, thing)


def thing_like(house, thing):
    return number(thing) and thing in range(house[0])


def row_like(house, thing):
    return row_of(thing, lambda part: thing_like(house, part))


def word_like(thing, words):
    return thing.__class__ is str and thing in words


def move_like(house, thing):
    if not row_of(thing, lambda part: True) or len(thing) != 3:
        return False
    word, moved, downs = thing
    if not thing_like(house, moved) or not row_like(house, downs):
        return False
    return word_like(word, ["ask"]) or word_like(word, ["strike"]) and downs == ()


def run_like(house, thing):
    return row_of(thing, lambda part: move_like(house, part))


def entry_like(house, thing):
    if not row_of(thing, lambda part: True) or len(thing) != 3:
        return False
    word, found, floor = thing
    return (word_like(word, ["ask", "strike"]) and thing_like(house, found)
            and number(floor) and floor in range(len(house[1]) + 1))


def log_like(house, thing):
    return row_of(thing, lambda part: entry_like(house, part))


def knowledge_like(house, thing):
    many, rooms = house
    if not row_of(thing, lambda part: row_of(part, lambda inner: True)) or len(thing) != 2:
        return False
    order, words = thing
    if not row_of(order, number) or list(order) not in [list(p) for p in itertools.permutations(range(many))]:
        return False
    if len(words) != len(rooms) or not all(row_of(word, number) and word in all_words(many) for word in words):
        return False
    sizes = [0] + [word[-1] for word in words]
    return tight(words) and all(0 <= sizes[j + 1] - sizes[j] <= rooms[j] for j in range(len(rooms)))


def good_moves(house):
    """Some moves of a house, ordinary ones and such as can never be done."""
    things = range(house[0])
    rows = [downs for long in range(3) for downs in itertools.product(things, repeat=long)]
    return [("ask", x, downs) for x in things for downs in rows] + [("strike", x, ()) for x in things]


def good_entries(house):
    return [(word, x, floor) for word in ("ask", "strike") for x in range(house[0])
            for floor in range(len(house[1]) + 1)]


def knowledges(house):
    """Some knowledges of a house: least and greatest words of states, and words that are not nested."""
    many = house[0]
    order = tuple(range(1, many)) + (0,) * min(1, many)
    found = []
    for state in states_by_counting(house)[::9] + states_by_counting(house)[-1:]:
        sizes = [sum(1 for at in state if at <= floor) for floor in range(len(house[1]))]
        found.append((order, tuple(tuple(min(d, size) for d in range(many + 1)) for size in sizes)))
        found.append((order, tuple(tuple(max(0, size + d - many) for d in range(many + 1)) for size in sizes)))
        found.append((order, tuple(tuple(sum(1 for x in order[:d] if state[x] <= floor) for d in range(many + 1))
                                   for floor in range(len(house[1])))))
    return [thing for place, thing in enumerate(found) if thing not in found[:place]]


class FormCase(Case):

    def check(self, call, like, house, thing):
        """The function tells of a thing what the document tells, as a truth, and leaves it alone."""
        ahead = exact(thing)
        given = (thing,) if house is None else (house, thing)
        self.same(call(*given), like(*given), *given)
        self.same(call(*given), like(*given), *given)
        self.assertEqual(exact(thing), ahead)

    def check_changed(self, call, like, house, things):
        """Each thing is right, and what differs from it in one place is what it is."""
        for thing in things:
            given = (thing,) if house is None else (house, thing)
            self.same(call(*given), True, *given)
            for other in part_changes(thing):
                self.check(call, like, house, other)

    def check_odd(self, call, like):
        for house in HOUSES:
            for thing in odd_values() + [Wrong((1, 0)), Nothing(), (Nothing(), ()), ("ask", Nothing(), ()), house]:
                self.check(call, like, house, thing)

    def tell(self, call, right, wrong):
        for given in right:
            self.same(call(*given), True, *given)
        for given in wrong:
            self.same(call(*given), False, *given)


class TestIntegersAndHouses(FormCase):

    def test_integers(self):
        for thing in (0, 1, -1, 7, 10 ** 39, -10 ** 39):
            self.same(forms.is_integer(thing), True, thing)
        for thing in odd_values() + [(0,), [0], {0: 0}, "0", "1", None, True, False, Wrong(0), Nothing()]:
            self.same(forms.is_integer(thing), number(thing), thing)

    def test_houses(self):
        self.tell(forms.is_house, [((0, (1,)),), ((16, (3, 3, 3, 3)),), ((0, (5, 1)),), ((2, (1, 9)),)], [
            ((1, ()),), ((1, (0,)),), ((1, (1, 0)),), ((1, (-1, 2)),), ((-1, (1,)),), ((True, (1,)),),
            ((False, (1,)),), ((1, (True,)),), ((1, (1, True)),), ((1, [1]),), ([1, (1,)],), ((1, (1,), 1),), ((1,),),
            ((None, (1,)),), ((1, None),), ((1, 1),), (("1", (1,)),), ((1, ("1",)),), ((1, ((1,),)),), (((1,), 1),),
            ((1, {1: 1}),), ({1: (1,)},), ({1: 0, (1,): 0},), ((1, "1"),), ((),), (None,), ("",), ((1, (None,)),)])

    def test_houses_changed(self):
        self.check_changed(forms.is_house, house_like, None, small_houses() + [(16, (3, 3, 3, 3)), (2, (10, 1))])
        for thing in odd_values() + [Wrong((1, (1,)))]:
            self.check(forms.is_house, house_like, None, thing)

    def test_bounds_are_not_asked(self):
        self.tell(forms.is_house, [((17, (1,)),), ((10 ** 39, (10 ** 39,)),), ((5, (13,)),), ((0, (1,) * 2990),)], [])
        great = (10 ** 39, (10 ** 39, 1, 1, 1, 1))
        self.tell(forms.is_start, [], [(great, None), (great, ()), (great, (0,))])
        many = (10 ** 39, (1, 1, 1, 1, 1))
        self.tell(forms.is_start, [(many, None)], [(many, (0, 1)), (many, (5,) * 2000)])
        self.tell(forms.is_row, [(many, (10 ** 39 - 1, 0))], [(many, (10 ** 39,))])
        self.tell(forms.is_entry, [(many, ("ask", 10 ** 39 - 1, 5))], [(many, ("ask", 0, 6)), (many, ("ask", -1, 5))])
        self.tell(forms.is_knowledge, [], [(many, ((0,), ((0, 1),) * 5)), (many, ((), ((0,),) * 5))])
        wide = (20, (5, 6, 7, 8, 9))
        word = tuple(range(21))
        self.tell(forms.is_state, [(wide, (0,) * 5 + (4,) * 9 + (5,) * 6)], [(wide, (0,) * 6 + (5,) * 14)])
        self.tell(forms.is_knowledge, [(wide, (tuple(range(20)), (word[:6] + (5,) * 15, word[:12] + (11,) * 9,
                                        word[:19] + (18,) * 2, word, word)))], [])
        self.tell(forms.is_log, [(wide, (("ask", 19, 5),) * 70)], [(wide, (("ask", 19, 5),) * 69 + (("ask", 20, 5),))])
        self.tell(forms.is_run, [(wide, (("ask", 19, ()),) * 70)], [])


class TestStates(FormCase):

    def test_states(self):
        house = (4, (1, 2))
        self.tell(forms.is_state, [(house, (1, 0, 2, 1)), (house, (2, 2, 2, 2)), (house, (0, 1, 1, 2)),
                                   ((0, (1,)), ()), ((2, (5,)), (0, 0))],
                  [(house, (0, 0, 2, 2)), (house, (1, 1, 1, 2)), (house, (1, 0, 2)), (house, (1, 0, 2, 1, 2)),
                   (house, (1, 0, 3, 1)), (house, (1, -1, 2, 1)), (house, [1, 0, 2, 1]), (house, (True, 0, 2, 1)),
                   (house, (1, False, 2, 1)), (house, (1, None, 2, 1)), (house, None), ((0, (1,)), []),
                   ((0, (1,)), None), ((0, (1,)), (1,)), (house, (1, (0,), 2, 1)), (house, ("1", "0", "2", "1"))])

    def test_all_tuples(self):
        for house in small_houses(4, 2, 2) + [(3, (1, 1, 1)), (3, (2, 1, 3))]:
            right = states_by_counting(house)
            for thing in itertools.product(range(-1, len(house[1]) + 2), repeat=house[0]):
                self.same(forms.is_state(house, thing), thing in right, house, thing)

    def test_changed(self):
        for house in HOUSES:
            things = states_by_counting(house)
            self.check_changed(forms.is_state, state_like, house, things[:1] + things[-3:] + things[::40])
            self.check_changed(forms.is_start, start_like, house, things[:1] + things[-3:] + things[::40])
        self.check_odd(forms.is_state, state_like)

    def test_starts(self):
        for house in small_houses(7, 3, 3):
            self.same(forms.is_start(house, None), house[0] >= sum(house[1]), house)
            self.same(forms.is_state(house, None), False, house)
        house = (4, (1, 1))
        self.tell(forms.is_start, [(house, None), (house, (2, 2, 2, 2)), ((3, (1, 2)), None), ((3, (3,)), None)],
                  [((2, (1, 2)), None), ((0, (1,)), None), ((2, (3,)), None), (house, (0, 0, 1, 2)), (house, ()),
                   (house, False), (house, "any"), (house, [2, 2, 2, 2])])
        self.check_odd(forms.is_start, start_like)


class TestMoves(FormCase):

    def test_moves(self):
        house = (4, (1, 2))
        self.tell(forms.is_move, [
            (house, ("ask", 2, (2, 2))), (house, ("ask", 0, ())), (house, ("strike", 3, ())),
            (house, ("ask", 3, (0, 1, 2, 3, 3)))], [
            (house, ("strike", 3, (1,))), (house, ("strike", 3, (3,))), (house, ("strike", 4, ())),
            (house, ("ask", 4, ())), (house, ("ask", -1, ())), (house, ("ask", 2, (4,))), (house, ("ask", 2, (-1,))),
            (house, ("ask", 2, [1])), (house, ("ask", 2, None)), (house, ("ask", 2)), (house, ("ask", 2, (), ())),
            (house, ["ask", 2, ()]), (house, ("find", 2, ())), (house, ("Ask", 2, ())), (house, ("", 2, ())),
            (house, (None, 2, ())), (house, (("ask",), 2, ())), (house, ("ask", True, ())),
            (house, ("ask", 2, (True,))), (house, ("ask", 2, (False, 0))), (house, ("strike", False, ())),
            (house, ("strike", 1, [])), (house, ("strike", 1, None)), (house, ("strike", 1)), (house, ("down", 1, ())),
            (house, (2, "ask", ())), (house, ("ask", "2", ())), (house, ("ask", 2, "")), (house, ("ask", 2, {})),
            (house, ("ask", (2,), ())), ((0, (1,)), ("ask", 0, ())), ((0, (1,)), ("strike", 0, ()))])

    def test_changed(self):
        for house in HOUSES:
            things = good_moves(house)
            self.check_changed(forms.is_move, move_like, house, things[:3] + things[::7] + things[-2:])
        self.check_odd(forms.is_move, move_like)

    def test_runs(self):
        for house in HOUSES:
            things = good_moves(house)
            runs = [(), tuple(things[:5]), tuple(things[-3:]), tuple(things[::9]), tuple(things[:1] * 3)]
            self.check_changed(forms.is_run, run_like, house, runs)
            for move in things[:4]:
                self.tell(forms.is_run, [(house, (move,))], [(house, move), (house, [move]), (house, (move, ()))])
        self.tell(forms.is_run, [], [((1, (1,)), None), ((1, (1,)), ""), ((1, (1,)), []), ((1, (1,)), {})])
        self.check_odd(forms.is_run, run_like)


class TestEntries(FormCase):

    def test_entries(self):
        house = (4, (1, 2))
        self.tell(forms.is_entry, [(house, entry) for entry in good_entries(house)], [
            (house, ("ask", 0, 3)), (house, ("ask", 4, 0)), (house, ("ask", -1, 0)), (house, ("ask", 0, -1)),
            (house, ("ask", 0, None)), (house, ("ask", 0, "out")), (house, ("find", 0, 0)), (house, ("ask", 0)),
            (house, ("ask", 0, 0, 0)), (house, ["ask", 0, 0]), (house, ("ask", True, 0)), (house, ("ask", 0, True)),
            (house, ("strike", 0, False)), (house, ("strike", 0, ())), (house, (None, 0, 0)), (house, (0, 0, 0)),
            (house, ("ask", 0, (0,))), (house, (["ask"], 0, 0)), ((0, (1,)), ("ask", 0, 0))])

    def test_changed(self):
        for house in HOUSES:
            things = good_entries(house)
            self.check_changed(forms.is_entry, entry_like, house, things[:4] + things[::5] + things[-1:])
            self.check_changed(forms.is_log, log_like, house, [(), tuple(things[:4]), tuple(things[-1:] * 2)])
            self.same(forms.is_log(house, tuple(things)), True, house)
        self.check_odd(forms.is_entry, entry_like)
        self.check_odd(forms.is_log, log_like)
        self.tell(forms.is_log, [], [((1, (1,)), ("ask", 0, 0)), ((1, (1,)), []), ((1, (1,)), [("ask", 0, 0)])])

    def test_rows(self):
        for house in HOUSES:
            many = house[0]
            rows = [(), tuple(range(many)), tuple(range(many)) * 3, (many - 1,) * (5 if many else 0)]
            self.check_changed(forms.is_row, row_like, house, rows)
        self.tell(forms.is_row, [((2, (1,)), (0, 1, 0))], [((2, (1,)), (2,)), ((2, (1,)), (-1,)), ((2, (1,)), [0]),
                  ((2, (1,)), (True,)), ((2, (1,)), (0, False)), ((2, (1,)), None), ((2, (1,)), 0),
                  ((2, (1,)), (None,)), ((0, (1,)), (0,)), ((2, (1,)), "01"), ((2, (1,)), ((0,),))])
        self.check_odd(forms.is_row, row_like)


class TestKnowledges(FormCase):

    def test_knowledges(self):
        house = (2, (1, 1))
        one = ((0, 1, 1), (0, 1, 2))
        self.tell(forms.is_knowledge, [
            (house, ((0, 1), one)), (house, ((1, 0), one)), (house, ((0, 1), ((0, 0, 0), (0, 0, 0)))),
            (house, ((0, 1), ((0, 0, 1), (0, 1, 2)))), (house, ((1, 0), ((0, 0, 0), (0, 0, 1)))),
            ((0, (1, 1)), ((), ((0,), (0,))))], [
            (house, ((0, 1), ((0, 1, 1), (0, 0, 1)))), (house, ((0, 1), ((0, 0, 1), (0, 1, 1)))),
            (house, ((0, 1), ((0, 1, 2), (0, 1, 2)))), (house, ((0, 1), ((0, 0, 0), (0, 1, 2)))),
            (house, ((0, 0), one)), (house, ((0, 1, 1), one)), (house, ((0,), one)), (house, ((0, 2), one)),
            (house, ((-1, 0), one)), (house, ((False, 1), one)), (house, ((0, True), one)), (house, ([0, 1], one)),
            (house, [(0, 1), one]), (house, ((0, 1), list(one))), (house, ((0, 1), one, one)), (house, ((0, 1),)),
            (house, ((0, 1), one[:1])), (house, ((0, 1), one + one[1:])), (house, ((0, 1), ([0, 1, 1], (0, 1, 2)))),
            (house, ((0, 1), ((0, True, 1), (0, 1, 2)))), (house, ((0, 1), ((False, 1, 1), (0, 1, 2)))),
            (house, ((0, 1), ((0, 1, 1), (1, 1, 2)))), (house, ((0, 1), ((0, 1, 0), (0, 1, 1)))),
            (house, ((0, 1), ((0, 1), (0, 1)))), (house, ((0, 1), ((0, 1, 1, 1), (0, 1, 2, 2)))),
            (house, ((0, 1), ((0, 0, 2), (0, 1, 2)))), (house, ((0, 1), ((0, -1, 0), (0, 0, 0)))),
            (house, ((0, 1), ((0, None, 1), (0, 1, 2)))), (house, ((0, 1), (None, (0, 1, 2)))),
            (house, ((0, 1), None)), (house, (None, one)), (house, None), (house, ()), (house, (one, (0, 1)))])

    def test_rooms_let_sizes_be(self):
        word = tuple(range(6))
        for first, then in itertools.product(range(6), repeat=2):
            for rooms in itertools.product(range(1, 6), repeat=2):
                low, high = [tuple(min(d, size) for d in word) for size in (first, then)]
                right = 0 <= then - first <= rooms[1] and first <= rooms[0]
                self.same(forms.is_knowledge((5, rooms), (word[:5], (low, high))), right, rooms, low, high)
        for size in range(4):
            told = forms.is_knowledge((3, (2,)), ((2, 0, 1), (tuple(max(0, size + d - 3) for d in range(4)),)))
            self.same(told, size <= 2, size)

    def test_tight_words_are_reached(self):
        for house in [(2, (1, 1)), (3, (1, 1)), (3, (2, 1)), (3, (1, 2)), (3, (1, 1, 1)), (2, (2, 1, 1)), (3, (3,)),
                      (4, (2, 2)), (4, (1, 3))]:
            order = tuple(range(house[0]))[::-1]
            for words in itertools.product(all_words(house[0]), repeat=len(house[1])):
                states = fitting(house, order, words)
                reached = states != [] and all(
                    min(sum(1 for x in order[:d] if state[x] <= floor) for state in states) == word[d]
                    for floor, word in enumerate(words) for d in range(len(word)))
                self.same(forms.is_knowledge(house, (order, words)), reached, house, order, words)

    def test_all_rows(self):
        for house in [(2, (1, 1)), (2, (2, 2)), (2, (1,)), (1, (1, 1)), (0, (1, 1)), (3, (2,))]:
            rows = list(itertools.product(range(-1, 4), repeat=house[0] + 1))
            for words in itertools.product(rows, repeat=len(house[1])):
                thing = (tuple(range(house[0])), words)
                self.same(forms.is_knowledge(house, thing), knowledge_like(house, thing), house, thing)

    def test_all_orders(self):
        house = (3, (1, 1))
        words = ((0, 0, 1, 1), (0, 1, 1, 2))
        for order in itertools.product(range(-1, 4), repeat=3):
            right = sorted(order) == [0, 1, 2]
            self.same(forms.is_knowledge(house, (order, words)), right, order)

    def test_changed(self):
        for house in HOUSES:
            things = knowledges(house)
            self.check_changed(forms.is_knowledge, knowledge_like, house, things[:2] + things[::len(things) // 4 + 1])
        self.check_odd(forms.is_knowledge, knowledge_like)

    def test_words_need_not_be_nested(self):
        self.tell(forms.is_knowledge, [((3, (1, 1)), ((0, 1, 2), ((0, 0, 1, 1), (0, 1, 1, 2))))], [])


class TestLeftAlone(FormCase):

    def test_lists_and_dicts_are_left_alone(self):
        house = (2, (1, 1))
        calls = [forms.is_state, forms.is_start, forms.is_move, forms.is_run, forms.is_entry, forms.is_log,
                 forms.is_row, forms.is_knowledge]
        for thing in [[1, 0], ["ask", 1, [0]], ("ask", 1, [0]), [("ask", 1, 0)], ([1, 0], [[0, 1, 1], [0, 1, 2]]),
                      {1: 0}, ({1: 0}, {0: 1})]:
            ahead = copy.deepcopy(thing)
            for call in calls:
                self.same(call(house, thing), False, thing)
            forms.is_integer(thing)
            forms.is_house(thing)
            self.same(thing, ahead)


if __name__ == "__main__":
    unittest.main()
