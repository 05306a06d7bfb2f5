"""One move back: from a state behind an entry to one ahead of it."""

from floorkeepers.errors import NotFit
from floorkeepers.fitting import fits
from floorkeepers.houses import things_on
from floorkeepers.leading import floors_put_down, led


def ahead(house, knowledge, entry, state):
    """A state that fits a knowledge, and a move with this entry that leads from it to the state handed in."""
    if not fits(house, led(house, knowledge, entry), state):
        raise NotFit()
    word, thing, found = entry
    downs = ()
    if word == "ask":
        downs = downs_back(house, knowledge[0], state, floors_put_down(house, knowledge, entry))
    places = list(state)
    # A thing that was put down several times stood where it was put down first.
    for floor in range(len(downs) - 1, -1, -1):
        places[downs[floor]] = floor
    places[thing] = found
    return (tuple(places), (word, thing, downs))


def downs_back(house, order, state, long):
    """What so many keepers put down in a move to this state, each the first thing of the order that it can be."""
    # The further ahead in the order it stands, the more the state ahead has of each beginning of the order,
    # and what stands first of all things behind a floor is at hand for all keepers ahead of it, too.
    downs = ()
    for floor in range(long, 0, -1):
        lot = things_on(house, state, floor) + downs[:1]
        downs = tuple([thing for thing in order if thing in lot][:1]) + downs
    return downs
