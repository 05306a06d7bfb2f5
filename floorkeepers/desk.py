"""A desk: lines of words that lead a live knowledge, and tell of it."""

from floorkeepers.errors import NoCommand, Wrong
from floorkeepers.live import Live
from floorkeepers.reader import floor_of, number_of, read_book, words_of
from floorkeepers.texts import show_book, show_floor

# What the words behind the first one of each command are; a place is a floor, or OUT.
COMMANDS = {
    "ask": ("thing", "place"),
    "strike": ("thing", "place"),
    "owe": ("side", "thing", "floor"),
    "free": ("side", "thing", "floor"),
    "back": (),
    "again": (),
    "floors": ("thing",),
    "order": (),
    "word": ("floor",),
    "duties": (),
    "book": (),
}
SIDES = ("within", "beyond")


def read_command(house, line):
    """The tuple of the first word of a command, and of what the others tell."""
    words = words_of(line)
    if len(words) == 0 or words[0] not in COMMANDS or len(words) != len(COMMANDS[words[0]]) + 1:
        raise NoCommand()
    told = [read_word(house, kind, word) for kind, word in zip(COMMANDS[words[0]], words[1:])]
    if any([part is None for part in told]):
        raise NoCommand()
    return (words[0],) + tuple(told)


def read_word(house, kind, word):
    """What a word of a kind tells, None if it is none."""
    if kind == "side":
        return word if word in SIDES else None
    if kind == "thing":
        return below(number_of(word), house[0])
    if kind == "floor":
        return below(floor_of(house, word), len(house[1]))
    return floor_of(house, word)


def below(number, end):
    """The number if it is below the end, otherwise None; None for None."""
    if number is None or number >= end:
        return None
    return number


class Desk:
    """A live knowledge that is led by lines of words."""

    def __init__(self, text):
        house, start, log = read_book(text)
        self._house = house
        self._start = start
        self._live = Live(house, start)
        for entry in log:
            self._live.enter(entry)

    def live(self):
        """An independent twin of the live knowledge."""
        return self._live.twin()

    def execute(self, line):
        """Do what a line tells; return the list of what is told in turn."""
        if not isinstance(line, str):
            raise Wrong(0)
        command = read_command(self._house, line)
        word = command[0]
        if word == "ask" or word == "strike":
            self._live.enter(command)
        elif word == "owe":
            self._live.owe(command[1:])
        elif word == "free":
            self._live.free(command[1:])
        elif word == "back":
            self._live.back()
        elif word == "again":
            self._live.again()
        return self._told(command)

    def _told(self, command):
        """The list of what a command asks to be told."""
        word = command[0]
        if word == "floors":
            return [show_floor(self._house, floor) for floor in self._live.floors(command[1])]
        if word == "order":
            return [str(thing) for thing in self._live.knowledge()[0]]
        if word == "word":
            return [str(number) for number in self._live.knowledge()[1][command[1]]]
        if word == "duties":
            return [f"{side} {thing} {floor}" for side, thing, floor in self._live.duties()]
        if word == "book":
            return show_book(self._house, self._start, self._live.log()).split("\n")
        return []
