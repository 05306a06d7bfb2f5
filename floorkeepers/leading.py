"""Leading a knowledge by the entries of a log."""

from floorkeepers.errors import CannotBe
from floorkeepers.houses import rooms_within, sizes_of
from floorkeepers.runs import order_at_first
from floorkeepers.words import known_sizes, tightened


def first_knowledge(house, start):
    """The knowledge at first of a start."""
    many = house[0]
    if start is None:
        words = [[max(0, size - many + d) for d in range(many + 1)] for size in rooms_within(house)]
        return (tuple(range(many)), tuple([tuple(word) for word in words]))
    words = [[min(d, size) for d in range(many + 1)] for size in sizes_of(house, start)]
    return (tuple(order_at_first(house, start)), tuple([tuple(word) for word in words]))


def led(house, knowledge, entry):
    """The knowledge led by an entry."""
    known = led_if_can_be(house, knowledge, entry)
    if known is None:
        raise CannotBe(0)
    return known


def led_by(house, knowledge, log):
    """The knowledge led by all entries of a log."""
    return all_led(house, knowledge, log)[-1]


def knowledge_behind(house, start, log):
    """The knowledge at first of a start, led by a log."""
    return led_by(house, first_knowledge(house, start), log)


def can_be(house, start, log):
    """Whether a log can be from a start."""
    return len(words_through(house, start, log)) == len(log) + 1


def words_through(house, start, log):
    """The list of the knowledges at first and behind each entry, up to the first one that cannot be."""
    return led_while_can_be(house, first_knowledge(house, start), log)


def all_led(house, knowledge, log, known=0):
    """The list of the knowledge and those behind each entry of a log that can be."""
    knowns = led_while_can_be(house, knowledge, log, known)
    if len(knowns) <= len(log):
        raise CannotBe(len(knowns) - 1)
    return knowns


def led_while_can_be(house, knowledge, log, known=0):
    """The list of the knowledge and those behind each entry, up to the first one that cannot be."""
    knowns = [knowledge]
    for entry in log:
        behind = led_if_can_be(house, knowns[-1], entry, known)
        if behind is None:
            return knowns
        knowns.append(behind)
    return knowns


def led_if_can_be(house, knowledge, entry, known=0):
    """The knowledge led by an entry, None if the entry cannot be.

    Of so many first floors as known tells, the keepers are known to put down what stands last in order.
    """
    words = words_amid(knowledge, entry)
    if words is None:
        return None
    word, thing, _ = entry
    others = tuple([other for other in knowledge[0] if other != thing])
    if word == "strike":
        return (others + (thing,), tuple([row + row[-1:] for row in words]))
    long = floors_put_down(house, knowledge, entry)
    words = tuple([put_down(row, floor < known) if floor < long else row for floor, row in enumerate(words)])
    if known > 0:
        # A known floor may keep more of the first things than the one behind it was told of.
        words = tightened(words, tuple([row[-1] for row in words]))
    return ((thing,) + others, tuple([(0,) + tuple([number + 1 for number in row]) for row in words]))


def words_amid(knowledge, entry):
    """The words amid an entry, when its thing has been taken out of order; None if the entry cannot be."""
    order, words = knowledge
    _, thing, found = entry
    place = order.index(thing)
    rows = [word[:place] + word[place + 1:] for word in words[:found]]
    for word in words[found:]:
        rows.append(word[:place + 1] + tuple([number - 1 for number in word[place + 2:]]))
    return tightened(tuple(rows), sizes_amid(known_sizes(knowledge), found))


def sizes_amid(sizes, found):
    """The sizes without a thing that was found on this floor."""
    return sizes[:found] + tuple([size - 1 for size in sizes[found:]])


def floors_put_down(house, knowledge, entry):
    """How many floors' keepers have to put a thing down if the thing of an ask is found where it tells."""
    # A floor is filled up only if all ahead of it are, so these are the first floors.
    pairs = list(zip(known_sizes(knowledge), rooms_within(house)))
    return len([size for size, room in pairs[:entry[2]] if size == room])


def put_down(row, known):
    """The integers of a floor whose keeper put a thing down, of which it is known, or not, that it stands last."""
    if known:
        return tuple([min(number, row[-1] - 1) for number in row])
    return tuple([max(0, number - 1) for number in row])
