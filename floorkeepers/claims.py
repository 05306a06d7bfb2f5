"""Claims: how many of the first things of an order are within a floor, at least, and what follows from what."""

from floorkeepers.forms import is_below, is_integer
from floorkeepers.houses import rooms_within
from floorkeepers.leading import first_knowledge, knowledge_behind, sizes_amid, words_amid
from floorkeepers.words import known_sizes


class Course:
    """The order and the sizes at each moment of a log, whether it can be or not.

    A place is a tuple of a moment, a floor and a count: all of a claim but its least.
    """

    def __init__(self, house, start, log):
        first = first_knowledge(house, start)
        self.words = first[1]
        self.rooms = rooms_within(house)
        self.entries = log
        self.orders = [first[0]]
        self.sizes = [known_sizes(first)]
        for entry in log:
            self._enter(entry)

    def _enter(self, entry):
        word, thing, found = entry
        others = tuple([other for other in self.orders[-1] if other != thing])
        amid = sizes_amid(self.sizes[-1], found)
        behind = amid
        if word == "ask":
            before = len(self.sizes) - 1
            behind = tuple([size if self.puts_down(before, floor, found) else size + 1
                            for floor, size in enumerate(amid)])
        self.orders.append(others)
        self.orders.append((thing,) + others if word == "ask" else others + (thing,))
        self.sizes.append(amid)
        self.sizes.append(behind)

    def puts_down(self, before, floor, found):
        """Whether a floor is ahead of that where a thing is found, and filled up at the moment before the entry."""
        return floor < found and self.sizes[before][floor] == self.rooms[floor]

    def has_place(self, moment, floor, count):
        """Whether there are this moment, this floor, no OUT, and so many things in the order of the moment."""
        if not is_below(moment, len(self.orders)) or not is_below(floor, len(self.rooms)):
            return False
        return is_below(count, len(self.orders[moment]) + 1)

    def places(self):
        """The ascending list of all places."""
        return [(moment, floor, count) for moment, order in enumerate(self.orders)
                for floor in range(len(self.rooms)) for count in range(len(order) + 1)]

    def alone(self, place):
        """The greatest least of a claim at a place that follows alone."""
        moment, floor, count = place
        least = max(0, self.sizes[moment][floor] - len(self.orders[moment]) + count)
        if moment == 0:
            return max(least, self.words[floor][count])
        if count > 0 and moment % 2 == 0 and self.entries[moment // 2 - 1][0] == "ask":
            return max(least, 1)
        return least

    def told(self, claim, place):
        """The greatest least of a claim at a place that follows from this claim, None if no rule tells one."""
        if place[0] == claim[0]:
            return self._told_beside(claim, place)
        if place[0] != claim[0] + 1 or place[1] != claim[1]:
            return None
        if place[0] % 2 == 1:
            return self._told_amid(claim, place)
        return self._told_behind(claim, place)

    def _told_beside(self, claim, place):
        moment, other, few, more = claim
        floor, count = place[1:]
        if (floor, count) == (other, few + 1) or (floor, count) == (other + 1, few):
            return more
        if (floor, count) == (other, few - 1):
            return more - 1
        if (floor, count) == (other - 1, few):
            return more - self.sizes[moment][other] + self.sizes[moment][floor]
        return None

    def _told_amid(self, claim, place):
        before, floor, few, more = claim
        count = place[2]
        _, thing, found = self.entries[before // 2]
        stood = self.orders[before].index(thing)
        if count == few and count <= stood:
            return more
        if count == few - 1 and count >= stood:
            return more - 1 if found <= floor else more
        return None

    def _told_behind(self, claim, place):
        amid, floor, few, more = claim
        word, _, found = self.entries[amid // 2]
        if word == "strike":
            return more if place[2] == few else None
        if place[2] != few + 1:
            return None
        return more if self.puts_down(amid - 1, floor, found) else more + 1


def follows(house, start, log, ahead, claim):
    """Whether a claim follows from the claim ahead, or, if this is None, alone."""
    return follows_in(Course(house, start, log), ahead, claim)


def follows_in(course, ahead, claim):
    """Whether a claim follows from the claim ahead, or, if this is None, alone, in a course."""
    if ahead is None:
        return claim[3] <= course.alone(claim[:3])
    least = course.told(ahead, claim[:3])
    return least is not None and claim[3] <= least


def is_claim_row(house, start, log, thing):
    """Whether it is a row of claims of a log."""
    return is_row_in(Course(house, start, log), thing)


def is_row_in(course, thing):
    """Whether it is a row of claims in a course."""
    if not isinstance(thing, tuple) or len(thing) == 0:
        return False
    if not all([is_claim(course, claim) for claim in thing]) or not follows_in(course, None, thing[0]):
        return False
    return all([follows_in(course, thing[at - 1], thing[at]) for at in range(1, len(thing))])


def is_claim(course, thing):
    """Whether it is a claim in a course."""
    if not isinstance(thing, tuple) or len(thing) != 4:
        return False
    moment, floor, count, least = thing
    return course.has_place(moment, floor, count) and is_integer(least)


def greatest_least(house, start, log, moment):
    """For each floor and count the greatest least of a claim in rows of claims of a log that can be."""
    # What follows from what is just how a knowledge is led, so these are the words there.
    known = knowledge_behind(house, start, log[:moment // 2])
    if moment % 2 == 0:
        return known[1]
    return words_amid(known, log[moment // 2])
