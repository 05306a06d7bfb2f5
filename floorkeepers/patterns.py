"""Patterns: on which floors the things of a row of asks can be found, one after the other."""

from floorkeepers.errors import TooMany
from floorkeepers.floors import floors_of
from floorkeepers.forms import is_log
from floorkeepers.leading import led
from floorkeepers.parting import can_happen

MOST_PATTERNS = 1000


def as_log(row, floors):
    """The log of a row of asks, whose things are found on these floors."""
    return tuple([("ask", thing, floor) for thing, floor in zip(row, floors)])


def is_pattern(house, knowledge, row, thing):
    """Whether it is a pattern of a row of asks."""
    if not isinstance(thing, tuple) or len(thing) != len(row):
        return False
    log = as_log(row, thing)
    return is_log(house, log) and can_happen(house, knowledge, log)


def least_pattern(house, knowledge, row):
    """The pattern in which each ask is found on the least floor that can be there."""
    return pattern_picked(house, knowledge, row, 0)


def greatest_pattern(house, knowledge, row):
    """The pattern in which each ask is found on the greatest floor that can be there."""
    return pattern_picked(house, knowledge, row, -1)


def pattern_picked(house, knowledge, row, index):
    """The pattern in which each ask is found on the floor with this index among those that can be there."""
    known = knowledge
    floors = ()
    for thing in row:
        floors = floors + (floors_of(house, known, thing)[index],)
        known = led(house, known, ("ask", thing, floors[-1]))
    return floors


def patterns_of(house, knowledge, row):
    """The ascending list of all patterns of a row of asks."""
    found = {knowledge: [()]}
    for thing in row:
        found = longer_patterns(house, found, thing)
        # Each of these goes on to some pattern of the whole row, so there are no fewer of these.
        if sum([len(patterns) for patterns in found.values()]) > MOST_PATTERNS:
            raise TooMany(MOST_PATTERNS)
    return sorted([floors for patterns in found.values() for floors in patterns])


def longer_patterns(house, found, thing):
    """For each knowledge to which patterns with one ask more lead the list of these."""
    longer = {}
    for known in found:
        for floor in floors_of(house, known, thing):
            behind = led(house, known, ("ask", thing, floor))
            longer.setdefault(behind, []).extend([floors + (floor,) for floors in found[known]])
    return longer


def found_behind(floors, floor):
    """How many of the floors are greater than one."""
    return len([found for found in floors if found > floor])
