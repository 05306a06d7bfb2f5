"""Whether any value is a house, a state, a start, a move, an entry, a row or a knowledge."""


def is_integer(thing):
    """Whether it is an integer; truths are none."""
    return isinstance(thing, int) and not isinstance(thing, bool)


def is_below(thing, end):
    """Whether it is an integer from 0 on that is below the end."""
    return is_integer(thing) and 0 <= thing < end


def is_house(thing):
    """Whether it is a tuple of the number of things, and of the rooms of each floor."""
    if not isinstance(thing, tuple) or len(thing) != 2:
        return False
    many, rooms = thing
    if not is_integer(many) or many < 0:
        return False
    if not isinstance(rooms, tuple) or len(rooms) == 0:
        return False
    return all([is_integer(room) and room > 0 for room in rooms])


def is_state(house, thing):
    """Whether it has a floor, or OUT, for each thing, no floor with more things than rooms."""
    many, rooms = house
    if not isinstance(thing, tuple) or len(thing) != many:
        return False
    if not all([is_below(floor, len(rooms) + 1) for floor in thing]):
        return False
    return all([thing.count(floor) <= room for floor, room in enumerate(rooms)])


def is_start(house, thing):
    """Whether it is a state, or None in a house that has things for all rooms."""
    if thing is None:
        return house[0] >= sum(house[1])
    return is_state(house, thing)


def is_move(house, thing):
    """Whether it is an ask or a strike, whether it can be done or not."""
    if not isinstance(thing, tuple) or len(thing) != 3:
        return False
    word, moved, downs = thing
    if not is_below(moved, house[0]) or not is_row(house, downs):
        return False
    return word == "ask" or (word == "strike" and len(downs) == 0)


def is_run(house, thing):
    """Whether it is a tuple of moves."""
    return isinstance(thing, tuple) and all([is_move(house, move) for move in thing])


def is_entry(house, thing):
    """Whether it is a word, a thing, and the floor, or OUT, where this was found."""
    if not isinstance(thing, tuple) or len(thing) != 3:
        return False
    word, found, floor = thing
    if not is_below(found, house[0]) or not is_below(floor, len(house[1]) + 1):
        return False
    return word == "ask" or word == "strike"


def is_log(house, thing):
    """Whether it is a tuple of entries."""
    return isinstance(thing, tuple) and all([is_entry(house, entry) for entry in thing])


def is_row(house, thing):
    """Whether it is a tuple of things, which may come again."""
    return isinstance(thing, tuple) and all([is_below(asked, house[0]) for asked in thing])


def is_order(house, thing):
    """Whether it is a tuple of all things, each once."""
    if not is_row(house, thing) or len(thing) != house[0]:
        return False
    return sorted(thing) == list(range(len(thing)))


def is_word(house, thing):
    """Whether it has many + 1 integers, the first one 0, each other one the same or one more."""
    if not isinstance(thing, tuple) or len(thing) != house[0] + 1:
        return False
    if not all([is_integer(number) for number in thing]) or thing[0] != 0:
        return False
    return all([0 <= thing[d] - thing[d - 1] <= 1 for d in range(1, len(thing))])


def may_follow(room, low, high):
    """Whether a floor of so many rooms may have the high word, tight behind the low one of the floor ahead."""
    more = high[-1] - low[-1]
    return more <= room and all([low[d] <= high[d] <= low[d] + more for d in range(len(low))])


def is_knowledge(house, thing):
    """Whether it is a knowledge with tight words, of sizes that the rooms let be."""
    if not isinstance(thing, tuple) or len(thing) != 2:
        return False
    order, words = thing
    rooms = house[1]
    if not is_order(house, order):
        return False
    if not isinstance(words, tuple) or len(words) != len(rooms):
        return False
    if not all([is_word(house, word) for word in words]) or words[0][-1] > rooms[0]:
        return False
    return all([may_follow(rooms[j], words[j - 1], words[j]) for j in range(1, len(rooms))])
