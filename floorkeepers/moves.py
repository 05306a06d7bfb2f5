"""Moves: which can be done at a state, and what is behind them."""

from floorkeepers.errors import CannotDo
from floorkeepers.forms import is_move
from floorkeepers.houses import things_on


def others_on(house, state, thing, floor):
    """The things on a floor but this one."""
    return [other for other in things_on(house, state, floor) if other != thing]


def downs_long(house, state, thing):
    """How many keepers have to put a thing down if this one is asked for."""
    rooms = house[1]
    floor = 0
    while floor < len(rooms) and len(others_on(house, state, thing, floor)) == rooms[floor]:
        floor += 1
    return floor


def choices(house, state, thing, downs):
    """The ascending list of what the next keeper may put down, downs being put down already."""
    others = others_on(house, state, thing, len(downs))
    # What has just come down stands there too; the asked thing never does, but on floor 0.
    return sorted(others + list(downs[-1:]))


def can_do(house, state, move):
    """Whether it is a move that can be done at a state."""
    if not is_move(house, move):
        return False
    word, thing, downs = move
    if word == "strike":
        return True
    if len(downs) != downs_long(house, state, thing):
        return False
    return all([down in choices(house, state, thing, downs[:floor]) for floor, down in enumerate(downs)])


def done(house, state, move):
    """The state behind a move."""
    if not can_do(house, state, move):
        raise CannotDo(0)
    return moved(house, state, move)


def moved(house, state, move):
    """The state behind a move that can be done."""
    word, thing, downs = move
    places = list(state)
    places[thing] = 0 if word == "ask" else len(house[1])
    for floor, down in enumerate(downs):
        places[down] = floor + 1
    return tuple(places)


def entry_of(house, state, move):
    """The entry of a move."""
    if not can_do(house, state, move):
        raise CannotDo(0)
    return (move[0], move[1], state[move[1]])


def downs_many(house, state, thing):
    """How many asks of a thing can be done at a state."""
    many = 1
    for floor in range(downs_long(house, state, thing)):
        # The first keeper may not put down what was asked, each later one what has just come.
        many = many * (house[1][floor] + min(floor, 1))
    return many


def asks_of(house, state, thing):
    """The ascending list of all asks of a thing that can be done at a state."""
    rows = [()]
    for _ in range(downs_long(house, state, thing)):
        rows = [downs + (down,) for downs in rows for down in choices(house, state, thing, downs)]
    return [("ask", thing, downs) for downs in rows]
