"""Several things at once: whether they can stand on given floors, and how many of them are within a floor."""

from floorkeepers.fitting import fits, state_of_lots, state_with_lot
from floorkeepers.words import known_sizes


def state_for(house, knowledge, wanted):
    """The state that fits, with things where they are wanted and the first others ahead; None if there is none."""
    others = [thing for thing in knowledge[0] if thing not in wanted]
    lots = []
    for floor, size in enumerate(known_sizes(knowledge)):
        lot = [thing for thing in wanted if wanted[thing] <= floor]
        lots.append(lot + others[:max(0, size - len(lot))])
    state = state_of_lots(house, lots)
    # Where too many things are wanted on a floor, or OUT, this state has other sizes, so it does not fit either.
    if not fits(house, knowledge, state):
        return None
    return state


def pair_floors(house, knowledge, one, other):
    """The ascending list of the tuples of the floors of two things, of all states that fit."""
    floors = list(range(len(house[1]) + 1))
    return [(first, second) for first in floors for second in floors
            if state_for(house, knowledge, {one: first, other: second}) is not None]


def least_within(house, knowledge, lot, floor):
    """The least number of things of a lot within a floor, and a state that fits and has no more there."""
    others = [thing for thing in knowledge[0] if thing not in lot]
    return number_within(house, knowledge, lot, choice_within(knowledge, floor, others + list(lot)))


def most_within(house, knowledge, lot, floor):
    """The greatest number of things of a lot within a floor, and a state that fits and has as many there."""
    others = [thing for thing in knowledge[0] if thing not in lot]
    return number_within(house, knowledge, lot, choice_within(knowledge, floor, list(lot) + others))


def number_within(house, knowledge, lot, chosen):
    """How many things of a lot are chosen, and the state with the chosen ones within a floor."""
    return (len([thing for thing in lot if thing in chosen]), state_with_lot(house, knowledge, chosen))


def choice_within(knowledge, floor, things):
    """The list of the things within a floor in some state that fits, each of all things taken if it still can be."""
    order, words = knowledge
    chosen = []
    # No choice is regretted: whatever lots can be together within a floor are those of a matroid.
    for thing in things:
        if can_be_together(order, words[floor], chosen + [thing]):
            chosen.append(thing)
    return chosen


def can_be_together(order, word, lot):
    """Whether all of a lot are within a floor in some state that fits."""
    late = 0
    for place in range(len(order) - 1, -1, -1):
        if order[place] in lot:
            late += 1
        if late > word[-1] - word[place]:
            return False
    return True
