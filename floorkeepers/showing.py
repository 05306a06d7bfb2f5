"""Runs that show that a log can be."""

from floorkeepers.ahead import ahead
from floorkeepers.errors import CannotDo, NotFit, TooMany
from floorkeepers.fitting import fits, front_state
from floorkeepers.forms import is_run, is_state
from floorkeepers.houses import MOST_STATES, all_states, rooms_within, sizes_of
from floorkeepers.leading import all_led, first_knowledge, knowledge_behind
from floorkeepers.lots import state_for
from floorkeepers.runs import come_to, log_of


def showing_to(house, start, log, state):
    """A showing of a log whose run ends at this state."""
    knowns = all_led(house, first_knowledge(house, start), log)
    if not fits(house, knowns[-1], state):
        raise NotFit()
    now = state
    run = []
    for index in range(len(log) - 1, -1, -1):
        now, move = ahead(house, knowns[index], log[index], now)
        run.append(move)
    return (now, tuple(run[::-1]))


def showing(house, start, log):
    """Any showing of a log."""
    return showing_to(house, start, log, front_state(house, knowledge_behind(house, start, log)))


def showing_with(house, start, log, wanted):
    """A showing of a log whose run ends with things where they are wanted, None if there is none."""
    state = state_for(house, knowledge_behind(house, start, log), wanted)
    if state is None:
        return None
    return showing_to(house, start, log, state)


def is_showing(house, start, log, thing):
    """Whether it is a showing of a log."""
    if not isinstance(thing, tuple) or len(thing) != 2:
        return False
    state, run = thing
    if not begins(house, start, state) or not is_run(house, run):
        return False
    try:
        return log_of(house, state, run) == log
    except CannotDo:
        return False


def begins(house, start, thing):
    """Whether it is the state of a start, or one of its states."""
    if not is_state(house, thing):
        return False
    if start is None:
        return sizes_of(house, thing) == rooms_within(house)
    return thing == start


def showings_many(house, start, log):
    """How many showings a log has."""
    ways = {state: 1 for state in states_at_first(house, start)}
    for entry in log:
        ways = ways_behind(house, ways, entry)
    return sum(list(ways.values()))


def states_at_first(house, start):
    """The list of all states of a start."""
    if start is None:
        return all_states(house, rooms_within(house))
    return [start]


def ways_behind(house, ways, entry):
    """In how many ways each state behind an entry comes from the states ahead, which came in so many ways."""
    behind = {}
    for state in ways:
        # No two moves of one entry lead from one state to the same one, so each state here is a way of its own.
        for other in come_to(house, state, entry):
            behind[other] = behind.get(other, 0) + ways[state]
        if len(behind) > MOST_STATES:
            raise TooMany(MOST_STATES)
    return behind
