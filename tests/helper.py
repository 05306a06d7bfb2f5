"""What the tests share: exact comparisons, values of any kind, and slow ways to the right results."""

import itertools
import unittest

from floorkeepers.errors import FloorError


def exact(value):
    """The value with the kind of each of its parts, so that 1 is not True and a list no tuple."""
    if isinstance(value, (list, tuple)):
        return (type(value).__name__, [exact(part) for part in value])
    if isinstance(value, dict):
        return ("dict", [(exact(key), exact(value[key])) for key in value])
    return (type(value).__name__, value)


class Case(unittest.TestCase):
    """A test case that compares kinds too, and looks into errors."""

    maxDiff = 2000

    def same(self, got, want, *about):
        if exact(got) != exact(want):
            self.fail(f"got {got!r}, not {want!r}, of {about!r}")

    def fails(self, error, fields, call, *given):
        """The call raises just this error with these fields, and leaves alone what it was given."""
        ahead = exact(given)
        with self.assertRaises(FloorError, msg=repr(given)) as caught:
            call(*given)
        self.assertIs(caught.exception.__class__, error, repr(given))
        for name, value in fields.items():
            self.same(getattr(caught.exception, name), value, given)
        self.assertEqual(exact(given), ahead)

    def twice(self, call, *given):
        """What the call returns, after the list it returned at first was spoilt by the caller."""
        first = call(*given)
        kept = list(first)
        self.assertIsInstance(first, list)
        first.append("spoilt")
        first.reverse()
        second = call(*given)
        self.same(second, kept, given)
        self.assertIsNot(first, second)
        return second


def deep(depth):
    """Lists in lists, so deep."""
    value = []
    for _ in range(depth):
        value = [value]
    return value


def odd_values():
    """Values of any kind, none of which is a right one of more than numbers, texts or empty tuples."""
    return [None, True, False, -1, 10 ** 39, -10 ** 39, "", "ask", "0", " \n~", [], {}, [0], {0: 1}, {"a": [None]},
            (None,), (True,), (False,), ("ask",), ([],), ((),), (((),),), deep(19), (deep(18),), [1] * 2999,
            FloorError(), FloorError("ask", 0, ())]


def part_changes(value):
    """Values that differ from a tuple in one place, at any depth: of another kind, longer or shorter."""
    changed = [list(value), value + (None,), value + value[-1:], value[:-1], {part: None for part in flat(value)}]
    changed += [(value,), None, True, repr(value)]
    for place, part in enumerate(value):
        for other in inner_changes(part):
            changed.append(value[:place] + (other,) + value[place + 1:])
    return [other for other in changed if exact(other) != exact(value)]


def inner_changes(part):
    if isinstance(part, tuple):
        return part_changes(part) + [-1]
    if isinstance(part, str):
        return ["", part + " ", part.upper(), "other", "strike", "ask", "down", [part], (part,), None, 0]
    others = [None, str(part), (part,), [part], -1 - part, 10 ** 39]
    return others + ([bool(part)] if part in (0, 1) else [])


def flat(value):
    """The numbers and words in a tuple, at any depth."""
    if not isinstance(value, tuple):
        return [value]
    return [found for part in value for found in flat(part)]


def number(thing):
    """Whether it is an integer."""
    return thing.__class__ is int


def row_of(thing, right):
    """Whether it is a tuple, each part of which is right."""
    return thing.__class__ is tuple and all(right(part) for part in thing)


def house_like(thing):
    """Whether it is a house."""
    return (row_of(thing, lambda part: True) and len(thing) == 2 and number(thing[0]) and thing[0] >= 0
            and row_of(thing[1], lambda room: number(room) and room >= 1) and thing[1] != ())


def small_houses(things=4, rooms=3, floors=3):
    """All houses with so few things, rooms on a floor, and floors."""
    return [(many, row) for many in range(things + 1) for count in range(1, floors + 1)
            for row in itertools.product(range(1, rooms + 1), repeat=count)]


HOUSES = [(0, (1,)), (0, (2, 1)), (1, (1,)), (1, (3, 2)), (2, (1, 1)), (3, (1,)), (3, (2,)), (3, (1, 1)), (4, (1, 2)),
          (4, (2, 1)), (4, (1, 1, 1)), (4, (3, 3)), (5, (2, 2)), (5, (1, 1, 1, 1)), (5, (1, 2, 1)), (3, (4, 4, 4))]


def states_by_counting(house):
    """All states, ascending, by going through all tuples of floors."""
    many, rooms = house
    floors = range(len(rooms) + 1)
    return [state for state in itertools.product(floors, repeat=many)
            if all(sum(1 for at in state if at == floor) <= rooms[floor] for floor in range(len(rooms)))]


def asks_by_keepers(house, state, thing):
    """All (downs, state behind) of an ask, each keeper doing whatever it may, with floors as sets."""
    many, rooms = house
    floors = [{x for x in range(many) if state[x] == floor} for floor in range(len(rooms) + 1)]
    floors[state[thing]].discard(thing)
    floors[0].add(thing)
    found = []
    keep(rooms, floors, 0, thing, (), found)
    return sorted(found)


def keep(rooms, floors, at, barred, downs, found):
    if at == len(rooms) or len(floors[at]) <= rooms[at]:
        where = {x: floor for floor, lot in enumerate(floors) for x in lot}
        found.append((downs, tuple(where[x] for x in sorted(where))))
        return
    for down in floors[at] - {barred}:
        below = [set(lot) for lot in floors]
        below[at].discard(down)
        below[at + 1].add(down)
        keep(rooms, below, at + 1, None, downs + (down,), found)


def all_words(many):
    """All words of so many things: tuples that begin with 0 and go up by one or not."""
    rows = [(0,)]
    for _ in range(many):
        rows = [row + (row[-1] + more,) for row in rows for more in (0, 1)]
    return rows


def tight(words):
    """Whether words are tight, as the document puts it."""
    pairs = [(words[j - 1], words[j]) for j in range(1, len(words))]
    return all(low[d] <= high[d] <= low[d] + high[-1] - low[-1] for low, high in pairs for d in range(len(low)))


def fitting(house, order, words):
    """All states that fit an order and words, by going through all states."""
    ends = [word[-1] for word in words]
    return [state for state in states_by_counting(house) if counted(order, words, state)
            and [sum(1 for at in state if at <= floor) for floor in range(len(words))] == ends]


def counted(order, words, state):
    return all(sum(1 for x in order[:d] if state[x] <= floor) >= word[d]
               for floor, word in enumerate(words) for d in range(len(word)))
