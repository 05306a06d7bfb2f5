"""What the best and the worst keepers make of a row of asks."""

from floorkeepers.errors import NotNested
from floorkeepers.leading import all_led, first_knowledge
from floorkeepers.patterns import as_log, found_behind, greatest_pattern, least_pattern
from floorkeepers.showing import showing
from floorkeepers.words import is_nested


def behind_bounds(house, knowledge, row):
    """For each floor the least and the greatest number of asks found behind it in any pattern."""
    need_nested(knowledge)
    least = least_pattern(house, knowledge, row)
    greatest = greatest_pattern(house, knowledge, row)
    return tuple([(found_behind(least, floor), found_behind(greatest, floor)) for floor in range(len(house[1]))])


def pattern_with(house, knowledge, row, floor, number):
    """A pattern with so many asks found behind a floor, None if there is none."""
    # From each to the next one there is at most one more, and the first and the last one have the least and the most.
    for floors in turn_patterns(house, knowledge, row):
        if found_behind(floors, floor) == number:
            return floors
    return None


def turn_patterns(house, knowledge, row):
    """The list of the patterns with 0, 1, .. first asks on the greatest floors, and all others on the least."""
    need_nested(knowledge)
    greatest = greatest_pattern(house, knowledge, row)
    knowns = all_led(house, knowledge, as_log(row, greatest))
    return [greatest[:turn] + least_pattern(house, known, row[turn:]) for turn, known in enumerate(knowns)]


def need_nested(knowledge):
    """Raise an error if a knowledge is not nested."""
    if not is_nested(knowledge):
        raise NotNested()


def best_run(house, start, row):
    """A state of a start and a run of a row of asks, with as few asks found behind each floor as there can be."""
    return run_with(house, start, row, least_pattern(house, first_knowledge(house, start), row))


def worst_run(house, start, row):
    """A state of a start and a run of a row of asks, with as many asks found behind each floor as there can be."""
    return run_with(house, start, row, greatest_pattern(house, first_knowledge(house, start), row))


def run_with(house, start, row, floors):
    """A state of a start and a run of a row of asks, found on these floors."""
    return showing(house, start, as_log(row, floors))
