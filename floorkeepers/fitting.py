"""The states that fit a knowledge."""

from floorkeepers.errors import NotNested, TooMany
from floorkeepers.houses import MOST_STATES, sizes_of
from floorkeepers.words import is_nested, known_sizes


def fits(house, knowledge, state):
    """Whether a state fits a knowledge."""
    order, words = knowledge
    if sizes_of(house, state) != known_sizes(knowledge):
        return False
    return all([keeps_word(order, word, state, floor) for floor, word in enumerate(words)])


def keeps_word(order, word, state, floor):
    """Whether as many of the first things of the order are within a floor as its word tells."""
    count = 0
    for place, thing in enumerate(order):
        if state[thing] <= floor:
            count += 1
        if count < word[place + 1]:
            return False
    return True


def states_of(house, knowledge):
    """The ascending list of all states that fit."""
    order, words = knowledge
    numbers = floor_numbers(house, knowledge)
    rows = [()]
    for _ in order:
        rows = [row + (floor,) for row in rows for floor in next_floors(words, numbers, counts_of(row, numbers))]
        # Some state that fits begins with each of these rows, so there are no fewer states.
        if len(rows) > MOST_STATES:
            raise TooMany(MOST_STATES)
    places = [order.index(thing) for thing in range(len(order))]
    return sorted([tuple([row[place] for place in places]) for row in rows])


def floor_numbers(house, knowledge):
    """The list of how many things stand on each floor, and OUT."""
    ends = (0,) + known_sizes(knowledge) + (house[0],)
    return [ends[at] - ends[at - 1] for at in range(1, len(ends))]


def counts_of(row, numbers):
    """The tuple of how many things of a row stand on each floor, and OUT."""
    return tuple([row.count(floor) for floor in range(len(numbers))])


def next_floors(words, numbers, counts):
    """The list of the floors, or OUT, of the next thing of the order, counts being how many ahead of it stand where."""
    end = sum(counts) + 1
    floors = []
    within = 0
    for floor, count in enumerate(counts):
        if count < numbers[floor]:
            floors.append(floor)
        within += count
        # The word needs this thing within the floor, so it cannot stand behind.
        if floor < len(words) and within < words[floor][end]:
            return floors
    return floors


def front_state(house, knowledge):
    """The state that fits in which the first things of the order are within each floor."""
    order = knowledge[0]
    return state_of_lots(house, [order[:size] for size in known_sizes(knowledge)])


def back_state(house, knowledge):
    """The state that fits in which no more things than each word tells are within its floor."""
    if not is_nested(knowledge):
        raise NotNested()
    order, words = knowledge
    return state_of_lots(house, [going_up(order, word) for word in words])


def reaching_state(house, knowledge, floor, count):
    """A state that fits in which no more of the first count things are within a floor than its word tells."""
    # This one does so for each count.
    order, words = knowledge
    return state_with_lot(house, knowledge, going_up(order, words[floor]))


def going_up(order, word):
    """The list of the things of the order at which a word goes up."""
    return [thing for place, thing in enumerate(order) if word[place + 1] > word[place]]


def state_with_lot(house, knowledge, lot):
    """The state that fits in which a lot is within the floor of its size, and the first things within all others."""
    order = knowledge[0]
    inner = [thing for thing in order if thing in lot]
    outer = [thing for thing in order if thing not in lot]
    lots = [inner[:size] + outer[:max(0, size - len(inner))] for size in known_sizes(knowledge)]
    return state_of_lots(house, lots)


def state_of_lots(house, lots):
    """The state in which these lots, each with all of the one ahead in it, are within the floors."""
    return tuple([len([lot for lot in lots if thing not in lot]) for thing in range(house[0])])
