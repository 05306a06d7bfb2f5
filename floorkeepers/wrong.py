"""Wrong results: which entries of a log may have wrong floors, and how few."""

from floorkeepers.errors import TooMany
from floorkeepers.unseen import is_filling, layers_of, with_floors

MOST_ENTRIES = 10


def wrong_lots(house, start, log):
    """The ascending list of the least lots of entries of a log, so that it can be but for their floors."""
    if len(log) > MOST_ENTRIES:
        raise TooMany(MOST_ENTRIES)
    layers = layers_of(house, start, all_holes(log))
    lots = {known: [()] for known in layers[0]}
    for index, layer in enumerate(layers[1:]):
        lots = {known: lots_behind(lots, layer[known], index, log[index][2]) for known in layer}
    return least_lots([lot for known in lots for lot in lots[known]])


def all_holes(log):
    """The log with all its entries being holes."""
    return with_floors(log, [None] * len(log))


def lots_behind(lots, ways, index, told):
    """The list of the lots of wrong entries by which ways lead to a knowledge; lots has those ahead of the entry."""
    return sorted(set([lot if floor == told else lot + (index,) for ahead, floor in ways for lot in lots[ahead]]))


def least_lots(lots):
    """The ascending list of the lots none of which has another one's all in it."""
    found = []
    for lot in sorted(lots, key=len):
        if not any([has_all(lot, few) for few in found]):
            found.append(lot)
    return sorted(found)


def has_all(lot, few):
    """Whether a lot has all of another one in it."""
    return all([index in lot for index in few])


def fewest_wrong(house, start, log):
    """The least number of entries whose floors have to be changed, and the log with so many changed that can be."""
    layers = layers_of(house, start, all_holes(log))
    best = {known: (0, ()) for known in layers[0]}
    for index, layer in enumerate(layers[1:]):
        told = log[index][2]
        best = {known: min([one_further(best[ahead], floor, told) for ahead, floor in layer[known]])
                for known in layer}
    number, floors = min(list(best.values()))
    return (number, with_floors(log, floors))


def one_further(changed, floor, told):
    """The number of changed floors, and all floors, behind an entry found on this floor instead of the one told."""
    number, floors = changed
    return (number + int(floor != told), floors + (floor,))


def is_mended(house, start, log, number, thing):
    """Whether it is the log with other floors in just so many entries, and can be."""
    if not is_filling(house, start, all_holes(log), thing):
        return False
    return len([index for index, entry in enumerate(log) if thing[index] != entry]) == number
