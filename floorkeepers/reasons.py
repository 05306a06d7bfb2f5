"""Reasons: rows of claims that tell why a log cannot be, or where a thing surely is, or is not."""

from floorkeepers.claims import Course, is_row_in
from floorkeepers.leading import can_be, knowledge_behind


def reason_against(house, start, log):
    """A shortest row of claims whose last one is too much, None if the log can be."""
    if can_be(house, start, log):
        return None
    course = Course(house, start, log)
    return shortest_row(course, {place: most_at(course, place) + 1 for place in course.places()})


def reason_within(house, start, log, thing, floor):
    """A shortest row of claims that tells that a thing is within a floor in all states, None if there is none."""
    order = knowledge_behind(house, start, log)[0]
    end = order.index(thing) + 1
    return shortest_row(Course(house, start, log), {(2 * len(log), floor, end): end})


def reason_not(house, start, log, thing, floor):
    """A shortest row of claims that tells that a thing is within a floor in no state, None if there is none."""
    order, words = knowledge_behind(house, start, log)
    place = (2 * len(log), floor, order.index(thing))
    return shortest_row(Course(house, start, log), {place: words[floor][-1]})


def is_reason_against(house, start, log, thing):
    """Whether it is a row of claims whose last one is too much."""
    course = Course(house, start, log)
    return is_row_in(course, thing) and thing[-1][3] > most_at(course, thing[-1][:3])


def most_at(course, place):
    """The greatest least of a claim at a place that is not too much."""
    moment, floor, count = place
    return min(count, course.sizes[moment][floor])


def shortest_row(course, goals):
    """A shortest row of claims that ends at a place of goals with the least told there, None if there is none."""
    rows = {place: (place + (course.alone(place),),) for place in course.places()}
    best = {place: course.alone(place) for place in course.places()}
    while len(rows) > 0:
        for place in goals:
            if best[place] >= goals[place]:
                return rows[place][:-1] + (place + (goals[place],),)
        rows = longer_rows(course, rows, best)
    return None


def longer_rows(course, rows, best):
    """For each place at which one claim more tells more than the best so far, the row that does; best is kept up."""
    found = {}
    for row in rows.values():
        for place in places_next(course, row[-1]):
            least = course.told(row[-1], place)
            if least is not None and least > best[place]:
                best[place] = least
                found[place] = row + (place + (least,),)
    return found


def places_next(course, claim):
    """The list of the places at which a claim may follow from this one."""
    moment, floor, count, _ = claim
    places = [(moment, floor, count - 1), (moment, floor, count + 1), (moment, floor - 1, count)]
    places.append((moment, floor + 1, count))
    places.extend([(moment + 1, floor, count + more) for more in (-1, 0, 1)])
    return [place for place in places if course.has_place(*place)]
