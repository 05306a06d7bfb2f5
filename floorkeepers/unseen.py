"""Holed logs: what can be where nobody saw on which floor a thing was found."""

from floorkeepers.errors import CannotBe, TooMany
from floorkeepers.floors import floors_of
from floorkeepers.forms import is_log
from floorkeepers.leading import can_be, first_knowledge, led

MOST_KNOWLEDGES = 300


def knowledges_for(house, start, holed):
    """The ascending list of the unlike knowledges to which fillings lead."""
    return sorted(layers_of(house, start, holed)[-1])


def hole_floors(house, start, holed):
    """For each hole the ascending tuple of the floors, and OUT, that it has in fillings."""
    layers = layers_of(house, start, holed)
    knowns = list(layers[-1])
    found = []
    for index in range(len(holed) - 1, -1, -1):
        # Only these go on to the end of the log.
        ways = [way for known in knowns for way in layers[index + 1][known]]
        if holed[index][2] is None:
            found.append(tuple(sorted(set([floor for _, floor in ways]))))
        knowns = sorted(set([ahead for ahead, _ in ways]))
    return tuple(found[::-1])


def filling_of(house, start, holed):
    """A filling of a holed log."""
    layers = layers_of(house, start, holed)
    known = min(list(layers[-1]))
    floors = []
    for layer in layers[:0:-1]:
        known, floor = layer[known][0]
        floors.append(floor)
    return with_floors(holed, floors[::-1])


def is_filling(house, start, holed, thing):
    """Whether it is a filling of a holed log."""
    if not is_log(house, thing) or len(thing) != len(holed):
        return False
    return all([fills(entry, told) for entry, told in zip(thing, holed)]) and can_be(house, start, thing)


def fills(entry, told):
    """Whether an entry is one of a holed log, or fills it if it is a hole."""
    return entry[:2] == told[:2] and (told[2] is None or entry[2] == told[2])


def floors_behind(house, start, holed, thing):
    """The ascending tuple of the floors, and OUT, on which a thing stands in some state to which a filling leads."""
    knowns = knowledges_for(house, start, holed)
    return tuple(sorted(set([floor for known in knowns for floor in floors_of(house, known, thing)])))


def with_floors(log, floors):
    """The log with these floors in its entries."""
    return tuple([(word, thing, floor) for (word, thing, _), floor in zip(log, floors)])


def layers_of(house, start, holed):
    """The list of a layer at first, and behind each entry.

    A layer is a dict, whose keys are the unlike knowledges to which fillings of the entries up to there lead. What is
    there is the list of the ways that lead to it: tuples of a knowledge ahead of the entry, and of the floor, or OUT,
    on which the thing was found. As the order is the same for all fillings, unlike knowledges have unlike words.
    """
    layers = [{first_knowledge(house, start): []}]
    for index, entry in enumerate(holed):
        layers.append(layer_behind(house, layers[-1], entry))
        if len(layers[-1]) == 0:
            raise CannotBe(index)
        if len(layers[-1]) > MOST_KNOWLEDGES:
            raise TooMany(MOST_KNOWLEDGES)
    return layers


def layer_behind(house, layer, entry):
    """The layer behind an entry, which may be a hole, from the one ahead of it."""
    word, thing, told = entry
    behind = {}
    for known in layer:
        for floor in floors_of(house, known, thing):
            if told is None or floor == told:
                behind.setdefault(led(house, known, (word, thing, floor)), []).append((known, floor))
    return behind
