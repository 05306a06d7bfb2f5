"""The floors on which a thing may stand."""

from floorkeepers.fitting import floor_numbers


def surely_within(knowledge, thing, floor):
    """Whether a thing is within a floor in all states that fit."""
    order, words = knowledge
    end = order.index(thing) + 1
    return words[floor][end] == end


def may_be_within(knowledge, thing, floor):
    """Whether a thing is within a floor in some state that fits."""
    order, words = knowledge
    return words[floor][order.index(thing)] < words[floor][-1]


def floors_of(house, knowledge, thing):
    """The ascending tuple of the floors, and OUT, at which a thing stands in some state that fits."""
    out = len(house[1])
    numbers = floor_numbers(house, knowledge)
    floors = []
    for floor in range(out + 1):
        reached = floor == out or may_be_within(knowledge, thing, floor)
        left = floor == 0 or not surely_within(knowledge, thing, floor - 1)
        if reached and left and numbers[floor] > 0:
            floors.append(floor)
    return tuple(floors)


def sure_things(knowledge, floor):
    """The ascending tuple of the things that are within a floor in all states that fit."""
    return tuple([thing for thing in range(len(knowledge[0])) if surely_within(knowledge, thing, floor)])


def barred_things(knowledge, floor):
    """The ascending tuple of the things that are within a floor in no state that fits."""
    return tuple([thing for thing in range(len(knowledge[0])) if not may_be_within(knowledge, thing, floor)])
