"""What parts two knowledges: a state, and a log, that only one of them lets be."""

from floorkeepers.blocks import state_beyond
from floorkeepers.houses import things_on
from floorkeepers.leading import led_while_can_be


def can_happen(house, knowledge, log):
    """Whether a knowledge can be led by all entries of a log."""
    return len(led_while_can_be(house, knowledge, log)) == len(log) + 1


def naming_log(house, state):
    """The log that asks for the things within the last floor, floor by floor, each found where it stands."""
    return tuple([("ask", thing, floor) for floor in range(len(house[1])) for thing in things_on(house, state, floor)])


def parting_state(house, one, other):
    """A state that fits just one of two knowledges of the same sizes, None if they are alike."""
    state = state_beyond(house, one, other)
    if state is None:
        return state_beyond(house, other, one)
    return state


def parting_log(house, one, other):
    """A log that can happen by just one of two knowledges of the same sizes, None if they are alike."""
    state = parting_state(house, one, other)
    if state is None:
        return None
    # It can be from no other state of these sizes, so it tells whether this one fits.
    return naming_log(house, state)
