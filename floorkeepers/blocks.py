"""Blocks: what of a knowledge the states that fit tell."""

from floorkeepers.lots import least_within
from floorkeepers.words import greater_ones, known_sizes


def blocks_of(knowledge):
    """For each floor the things between its cuts, and how many of all up to there are within it."""
    order, words = knowledge
    return tuple([floor_blocks(order, word) for word in words])


def floor_blocks(order, word):
    """The tuple of the lot that ends at each cut of a word, and the integer there."""
    ends = cuts_of(word)
    return tuple([(lot, word[end]) for lot, end in zip(lots_between(order, ends), ends)])


def cuts_of(word):
    """The ascending list of the counts up to which a word goes up, and no further."""
    return [d for d in range(1, len(word) - 1) if word[d - 1] < word[d] and word[d] == word[d + 1]]


def lots_between(order, ends):
    """The list of the ascending tuples of the things of the order up to each end, behind the end ahead of it."""
    begins = [0] + ends[:-1]
    return [tuple(sorted(order[begin:end])) for begin, end in zip(begins, ends)]


def normal_of(knowledge):
    """The knowledge that the same states fit, with all things ascending that no cut parts."""
    order, words = knowledge
    ends = sorted(set([end for word in words for end in cuts_of(word)]))
    lots = lots_between(order, ends + [len(order)])
    return (tuple([thing for lot in lots for thing in lot]), words)


def alike(one, other):
    """Whether the same states fit both."""
    return normal_of(one) == normal_of(other)


def lies_in(house, one, other):
    """Whether each state that fits one fits the other."""
    return known_sizes(one) == known_sizes(other) and state_beyond(house, one, other) is None


def state_beyond(house, one, other):
    """A state that fits one, but not the other of the same sizes; None if there is none."""
    order, words = other
    for floor, word in enumerate(words):
        # What a word needs up to its cuts tells all that it needs.
        for end in cuts_of(word):
            number, state = least_within(house, one, order[:end], floor)
            if number < word[end]:
                return state
    return None


def joint(house, one, other):
    """The knowledge that just the states fit which fit both, of one order and the same sizes."""
    return (one[0], tuple([tuple(greater_ones(word, more)) for word, more in zip(one[1], other[1])]))
