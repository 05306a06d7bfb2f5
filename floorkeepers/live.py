"""A live knowledge: it is led by entries, one by one, and duties that are owed keep some of them out."""

from floorkeepers.errors import Broken, CannotBe, NoDuty, Nothing, Wrong
from floorkeepers.floors import floors_of, may_be_within, surely_within
from floorkeepers.forms import is_below, is_entry, is_house, is_start
from floorkeepers.leading import first_knowledge, led_if_can_be


def is_duty(house, thing):
    """Whether it is a duty: a word, a thing and a floor."""
    if not isinstance(thing, tuple) or len(thing) != 3:
        return False
    word, kept, floor = thing
    if not is_below(kept, house[0]) or not is_below(floor, len(house[1])):
        return False
    return word == "within" or word == "beyond"


def is_kept(knowledge, duty):
    """Whether a duty is kept in all states that fit a knowledge."""
    word, thing, floor = duty
    if word == "within":
        return surely_within(knowledge, thing, floor)
    return not may_be_within(knowledge, thing, floor)


class Live:
    """A house, a start of it, and the entries and duties that came since.

    A moment is a tuple of the log, of the ascending tuple of the duties that are owed, and of the knowledge.
    """

    def __init__(self, house, start):
        if not is_house(house):
            raise Wrong(0)
        if not is_start(house, start):
            raise Wrong(1)
        self._house = house
        self._start = start
        self._moments = [((), (), first_knowledge(house, start))]
        self._undone = []

    def __eq__(self, other):
        return (isinstance(other, Live) and self._house == other._house and self._start == other._start
                and self._moments[-1][:2] == other._moments[-1][:2])

    def enter(self, entry):
        """Lead the knowledge by an entry."""
        log, duties, known = self._moments[-1]
        if not is_entry(self._house, entry):
            raise Wrong(0)
        behind = led_if_can_be(self._house, known, entry)
        if behind is None:
            raise CannotBe(len(log))
        for duty in duties:
            if not is_kept(behind, duty):
                raise Broken(duty)
        self._come_to(log + (entry,), duties, behind)

    def owe(self, duty):
        """Let a duty be owed from now on."""
        log, duties, known = self._moments[-1]
        if not is_duty(self._house, duty):
            raise Wrong(0)
        if duty in duties:
            return
        if not is_kept(known, duty):
            raise Broken(duty)
        self._come_to(log, tuple(sorted(duties + (duty,))), known)

    def free(self, duty):
        """End a duty that is owed."""
        log, duties, known = self._moments[-1]
        if not is_duty(self._house, duty) or duty not in duties:
            raise NoDuty(duty)
        self._come_to(log, tuple([other for other in duties if other != duty]), known)

    def _come_to(self, log, duties, known):
        self._moments.append((log, duties, known))
        self._undone = []

    def duties(self):
        """The ascending list of the duties that are owed."""
        return list(self._moments[-1][1])

    def knowledge(self):
        """The knowledge behind the log."""
        return self._moments[-1][2]

    def log(self):
        """The entries that came."""
        return self._moments[-1][0]

    def floors(self, thing):
        """The ascending tuple of the floors, and OUT, at which a thing may stand."""
        return floors_of(self._house, self.knowledge(), thing)

    def back(self):
        """Take back what was done last."""
        if len(self._moments) == 1:
            raise Nothing()
        self._undone.append(self._moments.pop())

    def again(self):
        """Do once more what was taken back last."""
        if len(self._undone) == 0:
            raise Nothing()
        self._moments.append(self._undone.pop())

    def twin(self):
        """An independent live knowledge with all this."""
        other = Live(self._house, self._start)
        other._moments = list(self._moments)
        other._undone = list(self._undone)
        return other
