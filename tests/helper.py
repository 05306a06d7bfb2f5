"""What the tests share: exact comparisons, values of any kind, and slow ways to the right results."""

import functools
import itertools
import random
import unittest

from floorkeepers.errors import FloorError
from floorkeepers.leading import knowledge_behind
from floorkeepers.words import tightened


def exact(value):
    """The value with the kind of each of its parts, so that 1 is not True and a list no tuple."""
    if isinstance(value, (list, tuple)):
        return (type(value).__name__, [exact(part) for part in value])
    if isinstance(value, dict):
        return ("dict", [(exact(key), exact(value[key])) for key in value])
    return (type(value).__name__, value)


class Case(unittest.TestCase):
    """A test case that compares kinds too, and looks into errors."""

    maxDiff = 2000

    def same(self, got, want, *about):
        if exact(got) != exact(want):
            self.fail(f"got {got!r}, not {want!r}, of {about!r}")

    def fails(self, error, fields, call, *given):
        """The call raises just this error with these fields, and leaves alone what it was given."""
        ahead = exact(given)
        with self.assertRaises(FloorError, msg=repr(given)) as caught:
            call(*given)
        self.assertIs(caught.exception.__class__, error, repr(given))
        for name, value in fields.items():
            self.same(getattr(caught.exception, name), value, given)
        self.assertEqual(exact(given), ahead)

    def twice(self, call, *given):
        """What the call returns, after the list it returned at first was spoilt by the caller."""
        first = call(*given)
        kept = list(first)
        self.assertIsInstance(first, list)
        first.append("spoilt")
        first.reverse()
        second = call(*given)
        self.same(second, kept, given)
        self.assertIsNot(first, second)
        return second


def deep(depth):
    """Lists in lists, so deep."""
    value = []
    for _ in range(depth):
        value = [value]
    return value


def odd_values():
    """Values of any kind, none of which is a right one of more than numbers, texts or empty tuples."""
    return [None, True, False, -1, 10 ** 39, -10 ** 39, "", "ask", "0", " \n~", [], {}, [0], {0: 1}, {"a": [None]},
            (None,), (True,), (False,), ("ask",), ([],), ((),), (((),),), deep(19), (deep(18),), [1] * 2999,
            FloorError(), FloorError("ask", 0, ())]


def part_changes(value):
    """Values that differ from a tuple in one place, at any depth: of another kind, longer or shorter."""
    changed = [list(value), value + (None,), value + value[-1:], value[:-1], {part: None for part in flat(value)}]
    changed += [(value,), None, True, repr(value)]
    for place, part in enumerate(value):
        for other in inner_changes(part):
            changed.append(value[:place] + (other,) + value[place + 1:])
    return [other for other in changed if exact(other) != exact(value)]


def inner_changes(part):
    if isinstance(part, tuple):
        return part_changes(part) + [-1]
    if isinstance(part, str):
        return ["", part + " ", part.upper(), "other", "strike", "ask", "down", [part], (part,), None, 0]
    others = [None, str(part), (part,), [part], -1 - part, 10 ** 39]
    return others + ([bool(part)] if part in (0, 1) else [])


def number_changes(value, most=4):
    """Values that differ from a tuple in one number, at any depth, by another one from 0 to most."""
    changed = []
    for place, part in enumerate(value):
        others = number_changes(part, most) if isinstance(part, tuple) else []
        if number(part):
            others = [other for other in range(most + 1) if other != part]
        changed += [value[:place] + (other,) + value[place + 1:] for other in others]
    return changed


def flat(value):
    """The numbers and words in a tuple, at any depth."""
    if not isinstance(value, tuple):
        return [value]
    return [found for part in value for found in flat(part)]


def number(thing):
    """Whether it is an integer."""
    return thing.__class__ is int


def row_of(thing, right):
    """Whether it is a tuple, each part of which is right."""
    return thing.__class__ is tuple and all(right(part) for part in thing)


def house_like(thing):
    """Whether it is a house."""
    return (row_of(thing, lambda part: True) and len(thing) == 2 and number(thing[0]) and thing[0] >= 0
            and row_of(thing[1], lambda room: number(room) and room >= 1) and thing[1] != ())


def small_houses(things=4, rooms=3, floors=3):
    """All houses with so few things, rooms on a floor, and floors."""
    return [(many, row) for many in range(things + 1) for count in range(1, floors + 1)
            for row in itertools.product(range(1, rooms + 1), repeat=count)]


HOUSES = [(0, (1,)), (0, (2, 1)), (1, (1,)), (1, (3, 2)), (2, (1, 1)), (3, (1,)), (3, (2,)), (3, (1, 1)), (4, (1, 2)),
          (4, (2, 1)), (4, (1, 1, 1)), (4, (3, 3)), (5, (2, 2)), (5, (1, 1, 1, 1)), (5, (1, 2, 1)), (3, (4, 4, 4))]


@functools.lru_cache(None)
def states_by_counting(house):
    """All states, ascending, by going through all tuples of floors; not to be changed."""
    many, rooms = house
    floors = range(len(rooms) + 1)
    return [state for state in itertools.product(floors, repeat=many)
            if all(sum(1 for at in state if at == floor) <= rooms[floor] for floor in range(len(rooms)))]


@functools.lru_cache(None)
def asks_by_keepers(house, state, thing):
    """All (downs, state behind) of an ask, each keeper doing whatever it may, with floors as sets; not to be changed.
    """
    many, rooms = house
    floors = [{x for x in range(many) if state[x] == floor} for floor in range(len(rooms) + 1)]
    floors[state[thing]].discard(thing)
    floors[0].add(thing)
    found = []
    keep(rooms, floors, 0, thing, (), found)
    return sorted(found)


def keep(rooms, floors, at, barred, downs, found):
    if at == len(rooms) or len(floors[at]) <= rooms[at]:
        where = {x: floor for floor, lot in enumerate(floors) for x in lot}
        found.append((downs, tuple(where[x] for x in sorted(where))))
        return
    for down in floors[at] - {barred}:
        below = [set(lot) for lot in floors]
        below[at].discard(down)
        below[at + 1].add(down)
        keep(rooms, below, at + 1, None, downs + (down,), found)


def all_words(many):
    """All words of so many things: tuples that begin with 0 and go up by one or not."""
    rows = [(0,)]
    for _ in range(many):
        rows = [row + (row[-1] + more,) for row in rows for more in (0, 1)]
    return rows


def tight(words):
    """Whether words are tight, as the document puts it."""
    pairs = [(words[j - 1], words[j]) for j in range(1, len(words))]
    return all(low[d] <= high[d] <= low[d] + high[-1] - low[-1] for low, high in pairs for d in range(len(low)))


def fitting(house, order, words):
    """All states that fit an order and words, by going through all states."""
    return [state for state in states_by_counting(house) if fits_like((order, words), state)]


def counted(order, words, state):
    return all(sum(1 for x in order[:d] if state[x] <= floor) >= word[d]
               for floor, word in enumerate(words) for d in range(len(word)))


def first_states(house, start):
    """All states of a start."""
    if start is not None:
        return [start]
    return [state for state in states_by_counting(house)
            if [state.count(floor) for floor in range(len(house[1]))] == list(house[1])]


def starts_of(house):
    """All starts of a house: each state, and None where there are things for all rooms."""
    return list(states_by_counting(house)) + ([None] if house[0] >= sum(house[1]) else [])


def entries_of(house):
    """All entries of a house."""
    return list(itertools.product(("ask", "strike"), range(house[0]), range(len(house[1]) + 1)))


def moves_of(house, state, entry):
    """All (move, state behind) of an entry that can be done at a state."""
    word, thing, floor = entry
    if state[thing] != floor:
        return []
    if word == "strike":
        return [((word, thing, ()), state[:thing] + (len(house[1]),) + state[thing + 1:])]
    return [((word, thing, downs), behind) for downs, behind in asks_by_keepers(house, state, thing)]


def all_behind(house, states, entry):
    """All states behind an entry from any of these states, ascending, by all keepers."""
    return sorted({behind for state in states for _, behind in moves_of(house, state, entry)})


def least_counts(order, states, floors):
    """The words that tell how many of the first things of an order are within each floor in all of these states."""
    rows = [[list(itertools.accumulate([state[x] <= floor for x in order], initial=0)) for state in states]
            for floor in range(floors)]
    return tuple(tuple(min(counts) for counts in zip(*row)) for row in rows)


def order_behind(order, entry):
    """The order behind an entry."""
    rest = tuple(x for x in order if x != entry[1])
    return (entry[1],) + rest if entry[0] == "ask" else rest + (entry[1],)


def all_tight(house):
    """All tight words of a house, of sizes that its rooms let be."""
    many, rooms = house
    found = [(word,) for word in all_words(many) if word[-1] <= rooms[0]]
    for room in rooms[1:]:
        found = [words + (word,) for words in found for word in all_words(many)
                 if word[-1] - words[-1][-1] <= room and tight((words[-1], word))]
    return found


def shuffled(dice, many):
    order = list(range(many))
    dice.shuffle(order)
    return tuple(order)


TINY = [(0, (1,)), (0, (2, 1)), (1, (1,)), (1, (2, 1)), (2, (1,)), (2, (3,)), (2, (1, 1)), (3, (1,)), (3, (2,)),
        (3, (1, 1)), (3, (1, 2)), (2, (1, 1, 1)), (3, (1, 1, 1)), (3, (2, 1)), (2, (1, 1, 1, 1))]
SMALL = TINY + [(4, (1,)), (4, (2,)), (4, (1, 1)), (4, (1, 2)), (4, (2, 1)), (4, (2, 2)), (5, (1,)), (5, (3,)),
                (5, (1, 1)), (4, (3, 3)), (4, (1, 1, 1)), (3, (1, 1, 1, 1)), (5, (1, 2)), (5, (2, 1))]


@functools.lru_cache(None)
def small_knowledges():
    """(house, knowledge, all states that fit) for all tight words of small houses, with some order for each."""
    dice = random.Random(5)
    found = []
    for house in SMALL:
        for words in all_tight(house):
            order = shuffled(dice, house[0])
            found.append((house, (order, words), fitting(house, order, words)))
    return found


def some_words(dice, house):
    """Any tight words of a house, by making any rows tight."""
    many, rooms = house
    while True:
        sizes = [0]
        for room in rooms:
            sizes.append(min(many, sizes[-1] + dice.choice([room, room, dice.randrange(room + 1)])))
        rows = []
        for size in sizes[1:]:
            row = [0] * (many + 1)
            for _ in range(dice.randrange(4)):
                d = dice.randrange(many + 1)
                row[d] = dice.randrange(min(d, size) + 1)
            rows.append(tuple(row))
        words = tightened(tuple(rows), tuple(sizes[1:]))
        if words is not None:
            return words


BIG = [(16, (3, 3, 3, 3)), (16, (12,)), (16, (1, 1, 1, 1)), (16, (1, 2, 4, 5)), (16, (5, 4, 2, 1)), (12, (6, 6)),
       (14, (2, 6)), (9, (3, 3, 3)), (10, (4, 4, 4)), (16, (1,))]


def some_state(dice, house):
    """Any state of a house."""
    places = [floor for floor, room in enumerate(house[1])
              for _ in range(dice.choice([room, dice.randrange(room + 1)]))]
    dice.shuffle(places)
    places = (places + [len(house[1])] * house[0])[:house[0]]
    dice.shuffle(places)
    return tuple(places)


def big_starts(dice, house):
    """Some (start, state of it): a state, and None where there are things for all rooms."""
    state = some_state(dice, house)
    found = [(state, state)]
    if house[0] >= sum(house[1]):
        places = [floor for floor, room in enumerate(house[1]) for _ in range(room)]
        places += [len(house[1])] * (house[0] - len(places))
        dice.shuffle(places)
        found.append((None, tuple(places)))
    return found


def some_log(dice, house, states, long):
    """A log that can be from some of these states, by going through all states behind its entries, and these."""
    log = []
    for _ in range(long if house[0] else 0):
        thing = dice.randrange(house[0])
        word = "strike" if dice.randrange(6) == 0 else "ask"
        floors = sorted({state[thing] for state in states})
        log.append((word, thing, dice.choice(floors + floors[-1:])))
        states = all_behind(house, states, log[-1])
    return tuple(log), states


def random_run(dice, house, state, long):
    """A run that can be done, the log it has, and the state behind it."""
    run, log = [], []
    for _ in range(long if house[0] else 0):
        thing = dice.randrange(house[0])
        downs, behind = dice.choice(asks_by_keepers(house, state, thing))
        move = ("ask", thing, downs)
        if dice.randrange(4) == 0:
            move, behind = ("strike", thing, ()), state[:thing] + (len(house[1]),) + state[thing + 1:]
        run.append(move)
        log.append((move[0], thing, state[thing]))
        state = behind
    return tuple(run), tuple(log), state


def random_knowledges(dice, times):
    """(house, knowledge) of large houses, with any tight words."""
    return [(house, (shuffled(dice, house[0]), some_words(dice, house))) for house in BIG for _ in range(times)]


def known_behind_logs(dice, times):
    """(house, knowledge) behind long logs of large houses."""
    found = []
    for house in BIG * times:
        for start, state in big_starts(dice, house):
            found.append((house, knowledge_behind(house, start, random_run(dice, house, state, 60)[1])))
    return found


def fits_like(known, state):
    """Whether a state fits a knowledge."""
    order, words = known
    sizes = [sum(1 for at in state if at <= floor) for floor in range(len(words))]
    return sizes == [word[-1] for word in words] and counted(order, words, state)


def nested_like(words):
    """Whether wherever a word goes up, the next one does."""
    ups = [{d for d in range(1, len(word)) if word[d] != word[d - 1]} for word in words]
    return all(ups[j - 1] <= ups[j] for j in range(1, len(ups)))


def next_counts(known, most, d, counts):
    """(floor, counts) of the thing at a place of the order, counts being how many of the first ones stand where."""
    found = []
    for floor in range(len(most)):
        row = counts[:floor] + (counts[floor] + 1,) + counts[floor + 1:]
        if row[floor] <= most[floor] and all(sum(row[:j + 1]) >= word[d + 1] for j, word in enumerate(known[1])):
            found.append((floor, row))
    return found


def paths(known):
    """For each beginning of the order a dict from how many of its things stand where, in some state, to how often."""
    order, words = known
    ends = [0] + [word[-1] for word in words] + [len(order)]
    most = [ends[at + 1] - ends[at] for at in range(len(ends) - 1)]
    ways = [{(0,) * len(most): 1}]
    for d in range(len(order)):
        longer = {}
        for counts, many in ways[-1].items():
            for _, row in next_counts(known, most, d, counts):
                longer[row] = longer.get(row, 0) + many
        ways.append(longer)
    # Only those from which the end can be reached.
    live = [{tuple(most)}]
    for d in range(len(order) - 1, -1, -1):
        live.append({counts for counts in ways[d] if any(row in live[-1] for _, row in
                                                         next_counts(known, most, d, counts))})
    live.reverse()
    return [{counts: row[counts] for counts in row if counts in live[d]} for d, row in enumerate(ways)], most


def counted_ways(house, known):
    """All (thing, floor) that are so in some state that fits."""
    ways, most = paths(known)
    return {(x, floor) for d, x in enumerate(known[0]) for counts in ways[d]
            for floor, row in next_counts(known, most, d, counts) if row in ways[d + 1]}


def fitting_some(dice, known, times):
    """Some states that fit, by going along the order."""
    ways, most = paths(known)
    found = []
    for _ in range(times):
        counts, state = (0,) * len(most), {}
        for d, x in enumerate(known[0]):
            state[x], counts = dice.choice([some for some in next_counts(known, most, d, counts)
                                            if some[1] in ways[d + 1]])
        found.append(tuple(state[x] for x in sorted(state)))
    return found


def counted_states(known):
    """How many states fit."""
    return sum(paths(known)[0][-1].values())


def swapped(known, one, other):
    """The knowledge with the things at two places exchanged."""
    order = list(known[0])
    order[one], order[other] = order[other], order[one]
    return (tuple(order), known[1])


def pairs_of_knowledges(dice, house, many):
    """Pairs of knowledges of a house: of any words, of one order, of words of the same sizes."""
    words = all_tight(house)
    by_sizes = {}
    for some in words:
        by_sizes.setdefault(tuple(word[-1] for word in some), []).append(some)
    found = []
    for _ in range(many):
        first = dice.choice(words)
        one = (shuffled(dice, house[0]), first)
        others = by_sizes[tuple(word[-1] for word in first)]
        found.append((one, (one[0], dice.choice(others))))
        found.append((one, (shuffled(dice, house[0]), dice.choice(others))))
        found.append((one, (shuffled(dice, house[0]), first)))
        found.append((one, (shuffled(dice, house[0]), dice.choice(words))))
        if house[0] > 1:
            place = dice.randrange(house[0] - 1)
            found.append((one, swapped(one, place, place + 1)))
    return found


def sizes_like(known):
    """The sizes of a knowledge."""
    return [word[-1] for word in known[1]]


def patterns_by_keepers(house, states, row):
    """A dict from each pattern of a row of asks to the states behind it, from any of these states, by all keepers."""
    found = {(): list(states)}
    for x in row:
        longer = {}
        for floors, now in found.items():
            for floor in sorted({state[x] for state in now}):
                longer[floors + (floor,)] = all_behind(house, now, ("ask", x, floor))
        found = longer
    return found


def some_row(dice, house, long):
    """Any row of so many asks."""
    return tuple(dice.randrange(house[0]) for _ in range(long if house[0] else 0))


# (house, words and things): of holes alone, from the start None, so many unlike knowledges are behind the last one.
JUST_300 = ((9, (2, 2, 1, 1)), (("ask", 8), ("ask", 3), ("strike", 7), ("ask", 0), ("ask", 1), ("strike", 2)))
JUST_301 = ((9, (2, 1, 1, 3)), (("ask", 5), ("ask", 0), ("strike", 4), ("ask", 1), ("ask", 3), ("ask", 2)))


class Rules:
    """The moments of a log, and each rule of [26], one by one as the document tells them."""

    def __init__(self, house, start, knowledge, log):
        self.house, self.log, self.words = house, log, knowledge[1]
        self.orders, self.sizes, self.full = [knowledge[0]], [[word[-1] for word in knowledge[1]]], []
        rooms = [sum(house[1][:floor + 1]) for floor in range(len(house[1]))]
        for entry in log:
            word, thing, found = entry
            self.full.append([size == room for size, room in zip(self.sizes[-1], rooms)])
            amid = [size - (floor >= found) for floor, size in enumerate(self.sizes[-1])]
            behind = list(amid)
            if word == "ask":
                for floor in range(len(rooms)):
                    if not (floor < found and self.full[-1][floor]):
                        behind[floor] += 1
            self.orders += [tuple(x for x in self.orders[-1] if x != thing), order_behind(self.orders[-1], entry)]
            self.sizes += [amid, behind]

    def places(self):
        return [(moment, floor, count) for moment in range(len(self.orders)) for floor in range(len(self.house[1]))
                for count in range(len(self.orders[moment]) + 1)]

    def most(self, place):
        """What is not too much."""
        return min(place[2], self.sizes[place[0]][place[1]])

    def alone(self, place):
        moment, floor, count = place
        told = [0, self.sizes[moment][floor] - len(self.orders[moment]) + count]
        if moment == 0:
            told.append(self.words[floor][count])
        if moment in [2 * at + 2 for at, entry in enumerate(self.log) if entry[0] == "ask"] and count != 0:
            told.append(1)
        return max(told)

    def behind(self, ahead, place):
        """What all the rules tell at a place of a claim ahead."""
        (before, other, few, more), (moment, floor, count) = ahead, place
        told = []
        if moment == before and floor == other and count == few + 1:
            told.append(more)
        if moment == before and count == few and floor == other + 1:
            told.append(more)
        if moment == before and floor == other and count == few - 1:
            told.append(more - 1)
        if moment == before and count == few and floor == other - 1:
            told.append(more - self.sizes[moment][other] + self.sizes[moment][floor])
        if floor == other and moment == before + 1 and before % 2 == 0:
            word, thing, found = self.log[before // 2]
            e = self.orders[before].index(thing)
            if count == few and count <= e:
                told.append(more)
            if count == few - 1 and count >= e:
                told.append(more - 1 if floor >= found else more)
        if floor == other and moment == before + 1 and before % 2 == 1:
            word, thing, found = self.log[before // 2]
            if word == "strike" and count == few:
                told.append(more)
            if word == "ask" and count == few + 1:
                told.append(more if floor < found and self.full[before // 2][floor] else more + 1)
        return told

    def is_claim(self, thing):
        return (row_of(thing, number) and len(thing) == 4 and 0 <= thing[0] < len(self.orders)
                and 0 <= thing[1] < len(self.house[1]) and 0 <= thing[2] <= len(self.orders[thing[0]]))

    def follows(self, ahead, claim):
        if ahead is None:
            return claim[3] <= self.alone(claim[:3])
        return any(claim[3] <= least for least in self.behind(ahead, claim[:3]))

    def is_row(self, thing):
        return (row_of(thing, self.is_claim) and len(thing) > 0 and self.follows(None, thing[0])
                and all(self.follows(thing[at - 1], thing[at]) for at in range(1, len(thing))))

    def ways(self):
        """(ahead, place, what a rule adds) for all places."""
        by_moment = {}
        for place in self.places():
            by_moment.setdefault(place[0], []).append(place)
        return [(ahead, place, more) for moment, row in by_moment.items() for ahead in row
                for place in row + by_moment.get(moment + 1, []) for more in self.behind(ahead + (0,), place)]

    def rounds(self):
        """For 1, 2, .. claims the greatest least at each place of rows of at most so many, till no more is told."""
        best = {place: self.alone(place) for place in self.places()}
        ways = self.ways()
        while True:
            yield best
            longer = dict(best)
            for ahead, place, more in ways:
                longer[place] = max(longer[place], best[ahead] + more)
            if longer == best:
                return
            best = longer
