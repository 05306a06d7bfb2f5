"""Houses, starts, logs and runs out of texts."""

from floorkeepers.errors import NoText, Wrong
from floorkeepers.forms import is_entry, is_house, is_move, is_start

HEADS = ("things", "rooms", "start")
DIGITS = "0123456789"
MOST_DIGITS = 9


def read_book(text):
    """The house, the start and the log of which a text tells."""
    if not isinstance(text, str):
        raise Wrong(0)
    head = []
    log = []
    for line, words in lines_of(text):
        if len(head) < len(HEADS):
            head.append(read_head(head, line, words))
        else:
            log.append(read_entry((head[0], head[1]), line, words))
    if len(head) < len(HEADS):
        raise NoText(len(text.split("\n")))
    return ((head[0], head[1]), head[2], tuple(log))


def read_run(house, text):
    """The run of which a text tells."""
    if not is_house(house):
        raise Wrong(0)
    if not isinstance(text, str):
        raise Wrong(1)
    return tuple([read_move(house, line, words) for line, words in lines_of(text)])


def lines_of(text):
    """The list of the lines that have words, each as a tuple of its index and its words."""
    lines = [(line, words_of(told)) for line, told in enumerate(text.split("\n"))]
    return [(line, words) for line, words in lines if len(words) > 0]


def words_of(line):
    """The list of the words of a line; blanks alone part them."""
    return [word for word in line.split(" ") if word != ""]


def number_of(word):
    """The number that a word is, None if it is none."""
    if len(word) > MOST_DIGITS or not all([sign in DIGITS for sign in word]):
        return None
    if word != "0" and word.startswith("0"):
        return None
    return int(word)


def floor_of(house, word):
    """The floor, or OUT, that a word tells, None if there is none."""
    floors = len(house[1])
    if word == "out":
        return floors
    number = number_of(word)
    if number is None or number >= floors:
        return None
    return number


def read_head(head, line, words):
    """What the next one of the first three lines tells, head being what those ahead of it told."""
    if words[0] != HEADS[len(head)]:
        raise NoText(line)
    if len(head) == 0:
        return read_many(line, words)
    if len(head) == 1:
        return read_rooms(line, words)
    return read_start((head[0], head[1]), line, words)


def read_many(line, words):
    """The number of things of a line `things N`."""
    if len(words) != 2 or number_of(words[1]) is None:
        raise NoText(line)
    return number_of(words[1])


def read_rooms(line, words):
    """The rooms of a line `rooms`."""
    rooms = tuple([number_of(word) for word in words[1:]])
    if not is_house((0, rooms)):
        raise NoText(line)
    return rooms


def read_start(house, line, words):
    """The start of a line `start`."""
    start = None
    if words[1:] != ["any"]:
        start = tuple([floor_of(house, word) for word in words[1:]])
    if not is_start(house, start):
        raise NoText(line)
    return start


def read_entry(house, line, words):
    """The entry of a line `ask N FLOOR` or `strike N FLOOR`."""
    if len(words) != 3:
        raise NoText(line)
    entry = (words[0], number_of(words[1]), floor_of(house, words[2]))
    if not is_entry(house, entry):
        raise NoText(line)
    return entry


def read_move(house, line, words):
    """The move of a line `ask N`, `ask N down ..` or `strike N`."""
    if len(words) < 2 or (len(words) > 2 and words[2] != "down") or len(words) == 3:
        raise NoText(line)
    move = (words[0], number_of(words[1]), tuple([number_of(word) for word in words[3:]]))
    if not is_move(house, move):
        raise NoText(line)
    return move
