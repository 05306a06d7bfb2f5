"""How many states fit a knowledge, and which one has which index among them."""

from floorkeepers.errors import NoIndex, NotFit
from floorkeepers.fitting import fits, floor_numbers, next_floors
from floorkeepers.forms import is_below


def states_with(house, knowledge, wanted):
    """How many states fit that have things where they are wanted."""
    let = {thing: (wanted[thing],) for thing in wanted}
    return states_let(house, steps_of(house, knowledge), let)


def floor_counts(house, knowledge, thing):
    """For each floor, and for OUT, in how many states that fit a thing stands there."""
    steps = steps_of(house, knowledge)
    return tuple([states_let(house, steps, {thing: (floor,)}) for floor in range(len(house[1]) + 1)])


def lot_counts(house, knowledge, lot, floor):
    """For each number in how many states that fit just so many things of a lot are within a floor."""
    found = numbers_let(house, steps_of(house, knowledge), {}, (lot, floor))
    return tuple([found.get(number, 0) for number in range(len(lot) + 1)])


def state_at(house, knowledge, index):
    """The state with this index among all that fit."""
    steps = steps_of(house, knowledge)
    if not is_below(index, states_let(house, steps, {})):
        raise NoIndex(index)
    ahead = 0
    let = {}
    for thing in range(house[0]):
        floor = 0
        let[thing] = (0,)
        many = states_let(house, steps, let)
        while ahead + many <= index:
            ahead += many
            floor += 1
            let[thing] = (floor,)
            many = states_let(house, steps, let)
    return tuple([let[thing][0] for thing in range(house[0])])


def index_of(house, knowledge, state):
    """The index of a state among all that fit."""
    if not fits(house, knowledge, state):
        raise NotFit()
    steps = steps_of(house, knowledge)
    index = 0
    let = {}
    for thing, floor in enumerate(state):
        # Ahead are the states that have this thing on a lesser floor, and all lesser things where this one has them.
        let[thing] = tuple(range(floor))
        index += states_let(house, steps, let)
        let[thing] = (floor,)
    return index


def steps_of(house, knowledge):
    """For each thing of the order a tuple of it and of its steps.

    These are a dict, whose keys are the tuples of how many of the things ahead stand where in some state that fits.
    What is there is a list that has, for each floor, or OUT, on which the thing can stand then, a tuple of it and of
    how many stand where behind the thing.
    """
    order, words = knowledge
    numbers = floor_numbers(house, knowledge)
    reached = [none_yet(house)]
    found = []
    for thing in order:
        steps = {counts: [(floor, one_more(counts, floor)) for floor in next_floors(words, numbers, counts)]
                 for counts in reached}
        found.append((thing, steps))
        reached = sorted(set([counts for row in steps.values() for _, counts in row]))
    return found


def none_yet(house):
    """The counts of no things on each floor, and OUT."""
    return (0,) * (len(house[1]) + 1)


def one_more(counts, floor):
    """The counts with one thing more on a floor, or OUT."""
    return counts[:floor] + (counts[floor] + 1,) + counts[floor + 1:]


def states_let(house, steps, let):
    """How many states fit in which each thing of let stands on one of the floors that it has there."""
    return numbers_let(house, steps, let, ((), 0))[0]


def numbers_let(house, steps, let, asked):
    """In how many of the states of states_let just so many things of a lot are within a floor, by their number.

    asked is the tuple of the lot and the floor. Number 0 is always there.
    """
    lot, floor = asked
    # No two states take the same steps, and whatever steps are taken lead to some state in the end.
    ways = {(none_yet(house), 0): 1}
    for thing, rows in steps:
        behind = {}
        for counts, number in ways:
            for at, more in rows[counts]:
                if thing not in let or at in let[thing]:
                    place = (more, number + int(thing in lot and at <= floor))
                    behind[place] = behind.get(place, 0) + ways[(counts, number)]
        ways = behind
    found = {0: 0}
    for counts, number in ways:
        found[number] = found.get(number, 0) + ways[(counts, number)]
    return found
