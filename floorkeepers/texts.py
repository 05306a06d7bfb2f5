"""Houses, starts, logs and runs as texts."""


def show_floor(house, floor):
    """A floor as a word, OUT as `out`."""
    if floor == len(house[1]):
        return "out"
    return str(floor)


def show_start(house, start):
    """The words of a start."""
    if start is None:
        return ["any"]
    return [show_floor(house, floor) for floor in start]


def show_book(house, start, log):
    """The text of a house, a start and a log."""
    lines = [["things", str(house[0])]]
    lines.append(["rooms"] + [str(room) for room in house[1]])
    lines.append(["start"] + show_start(house, start))
    for word, thing, floor in log:
        lines.append([word, str(thing), show_floor(house, floor)])
    return joined(lines)


def show_run(run):
    """The text of a run."""
    return joined([show_move(move) for move in run])


def show_move(move):
    """The words of a move."""
    word, thing, downs = move
    words = [word, str(thing)]
    if len(downs) > 0:
        words.append("down")
    return words + [str(down) for down in downs]


def joined(lines):
    """The text of lines of words."""
    return "\n".join([" ".join(words) for words in lines])
