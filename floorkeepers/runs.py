"""Runs: what is behind them, and those of some keepers."""

from floorkeepers.errors import CannotDo
from floorkeepers.moves import asks_of, can_do, choices, done, downs_long, entry_of, moved


def ran(house, state, run):
    """The state behind a run."""
    return states_through(house, state, run)[-1]


def log_of(house, state, run):
    """The log of a run."""
    states = states_through(house, state, run)
    return tuple([entry_of(house, now, move) for now, move in zip(states, run)])


def states_through(house, state, run):
    """The list of the state at first, and of those behind each move."""
    states = [state]
    for index, move in enumerate(run):
        if not can_do(house, states[-1], move):
            raise CannotDo(index)
        states.append(done(house, states[-1], move))
    return states


def last_use_run(house, state, row):
    """The run of asks in which each keeper puts down what was asked for longest ago."""
    order = order_at_first(house, state)
    now = state
    run = []
    for thing in row:
        order = asked_first(order, thing)
        run.append(ask_by(house, now, thing, use_ranks(order)))
        now = done(house, now, run[-1])
    return tuple(run)


def order_at_first(house, state):
    """The list of all things by floor and thing, OUT last."""
    return [thing for _, thing in sorted([(state[thing], thing) for thing in range(house[0])])]


def asked_first(order, thing):
    """The list of all things in order behind an ask of one."""
    return [thing] + [other for other in order if other != thing]


def use_ranks(order):
    """Ranks by which what stands last in order is of least rank."""
    return {thing: -place for place, thing in enumerate(order)}


def worth_run(house, state, row, worths):
    """The run of asks in which each keeper puts down the thing of least worth."""
    now = state
    run = []
    for thing in row:
        run.append(ask_by(house, now, thing, worths))
        now = done(house, now, run[-1])
    return tuple(run)


def ask_by(house, state, thing, ranks):
    """The ask in which each keeper puts down the thing of least rank that it may."""
    downs = ()
    for _ in range(downs_long(house, state, thing)):
        downs = downs + (least_choice(house, state, thing, downs, ranks),)
    return ("ask", thing, downs)


def least_choice(house, state, thing, downs, ranks):
    """The thing of least rank that the next keeper may put down, downs being put down already."""
    return min(choices(house, state, thing, downs), key=lambda down: ranks[down])


def come_to(house, state, entry):
    """The ascending list of the states behind all moves of an entry."""
    word, thing, floor = entry
    if state[thing] != floor:
        return []
    moves = [("strike", thing, ())]
    if word == "ask":
        moves = asks_of(house, state, thing)
    return sorted([moved(house, state, move) for move in moves])
