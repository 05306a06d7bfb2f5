"""Houses and states: the rooms and the things of each floor, and all states of given sizes."""

from floorkeepers.errors import TooMany

MOST_STATES = 3000


def rooms_within(house):
    """The tuple of the rooms within each floor."""
    return tuple([sum(house[1][:floor + 1]) for floor in range(len(house[1]))])


def sizes_of(house, state):
    """The tuple of the numbers of things within each floor."""
    return tuple([len(things_within(house, state, floor)) for floor in range(len(house[1]))])


def things_on(house, state, floor):
    """The ascending tuple of the things on a floor, or OUT."""
    return tuple([thing for thing in range(house[0]) if state[thing] == floor])


def things_within(house, state, floor):
    """The ascending tuple of the things within a floor."""
    return tuple([thing for thing in range(house[0]) if state[thing] <= floor])


def filled_up(house, state, floor):
    """Whether there are as many things within a floor as rooms."""
    return sizes_of(house, state)[floor] == rooms_within(house)[floor]


def empty_state(house):
    """The state in which all things are OUT."""
    return (len(house[1]),) * house[0]


def all_states(house, sizes):
    """The ascending list of all states of these sizes."""
    state = least_state(house, sizes)
    states = []
    while state is not None:
        if len(states) == MOST_STATES:
            raise TooMany(MOST_STATES)
        states.append(state)
        state = state_after(state)
    return states


def least_state(house, sizes):
    """The least state of these sizes, None if there is none."""
    many, rooms = house
    floors = []
    for floor, size in enumerate(sizes):
        count = size - len(floors)
        if count < 0 or count > rooms[floor] or size > many:
            return None
        floors.extend([floor] * count)
    return tuple(floors + [len(rooms)] * (many - len(floors)))


def state_after(state):
    """The next greater tuple of the same floors, None behind the greatest one."""
    at = len(state) - 2
    while at >= 0 and state[at] >= state[at + 1]:
        at -= 1
    if at < 0:
        return None
    # Behind this place all goes down, so the last greater floor there is the least of these.
    other = len(state) - 1
    while state[other] <= state[at]:
        other -= 1
    floors = list(state)
    floors[at], floors[other] = floors[other], floors[at]
    return tuple(floors[:at + 1] + floors[:at:-1])
