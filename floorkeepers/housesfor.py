"""By which houses a log can be, if all things are OUT at first."""

from floorkeepers.houses import empty_state
from floorkeepers.leading import can_be, words_through

MOST_ROOMS = 8


def all_houses(many, floors):
    """The ascending list of all houses with so many things and floors that have few rooms together."""
    rows = [()]
    for _ in range(floors):
        rows = [row + (room,) for row in rows for room in range(1, MOST_ROOMS - sum(row) + 1)]
    return [(many, row) for row in rows]


def houses_for(many, floors, log):
    """The ascending list of the houses by which a log can be from the empty start."""
    return [house for house in all_houses(many, floors) if can_be(house, empty_state(house), log)]


def first_against(many, rooms, log):
    """The index of the first entry that cannot be by a house from its empty start, None if the log can be."""
    house = (many, rooms)
    index = len(words_through(house, empty_state(house), log)) - 1
    if index == len(log):
        return None
    return index
