"""Known keepers: those of the first floors put down what stands last in the order of the knowledge."""

from floorkeepers.errors import CannotBe
from floorkeepers.leading import all_led, first_knowledge, led_if_can_be, led_while_can_be
from floorkeepers.moves import done
from floorkeepers.runs import asked_first, least_choice, order_at_first, use_ranks


def known_led(house, knowledge, known, entry):
    """The knowledge led by an entry, the keepers of so many first floors being known."""
    behind = led_if_can_be(house, knowledge, entry, known)
    if behind is None:
        raise CannotBe(0)
    return behind


def known_behind(house, state, known, log):
    """The knowledge at first of a state, led by a log, the keepers of so many first floors being known."""
    return all_led(house, first_knowledge(house, state), log, known)[-1]


def known_can_be(house, state, known, log):
    """Whether a log can be from a state, the keepers of so many first floors being known."""
    return len(led_while_can_be(house, first_knowledge(house, state), log, known)) == len(log) + 1


def known_most(house, state, log):
    """Of how many first floors the keepers may be known at most, None if the log cannot be at all."""
    for known in range(len(house[1]), -1, -1):
        if known_can_be(house, state, known, log):
            return known
    return None


def is_known_run(house, state, known, run):
    """Whether the keepers of so many first floors have put down what stands last, in a run that can be done."""
    order = order_at_first(house, state)
    now = state
    for move in run:
        _, thing, downs = move
        # What is struck out is OUT till it is asked for again, so it need not stand last till then.
        order = asked_first(order, thing)
        ranks = use_ranks(order)
        for floor in range(min(known, len(downs))):
            if downs[floor] != least_choice(house, now, thing, downs[:floor], ranks):
                return False
        now = done(house, now, move)
    return True
