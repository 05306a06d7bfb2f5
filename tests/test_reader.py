"""Point [15]: texts are read back."""

import itertools
import random
import re
import unittest

from floorkeepers.errors import NoText, Nothing, Wrong
from floorkeepers.reader import read_book, read_run
from floorkeepers.texts import show_book, show_run
from tests.helper import Case, HOUSES, house_like, odd_values, part_changes, states_by_counting

HEAD = "things 4\nrooms 1 2\nstart 1 0 out 1"
HOUSE = (4, (1, 2))
NUMBER = "(0|[1-9][0-9]{0,8})"


def number_below(word, end):
    """The number of a word, None if it is none or not below the end."""
    if not re.fullmatch(NUMBER, word) or int(word) >= end:
        return None
    return int(word)


def floor_like(word, floors):
    return floors if word == "out" else number_below(word, floors)


def start_like(line, many, rooms):
    """(whether the line tells of a start, the start)."""
    if line == "start any":
        return (many >= sum(rooms), None)
    state = tuple(floor_like(word, len(rooms)) for word in line.split(" ")[1:])
    right = re.fullmatch("start( [^ ]+)*", line) and len(state) == many and None not in state
    return (bool(right) and all(state.count(j) <= rooms[j] for j in range(len(rooms))), state)


def entry_like(line, many, rooms):
    found = re.fullmatch("(ask|strike) ([^ ]+) ([^ ]+)", line)
    if not found:
        return (False, None)
    entry = (found[1], number_below(found[2], many), floor_like(found[3], len(rooms)))
    return (None not in entry, entry)


def head_like(line, told):
    if len(told) == 0:
        found = re.fullmatch("things " + NUMBER, line)
        return (True, int(found[1])) if found else (False, None)
    if len(told) == 1:
        found = re.fullmatch("rooms( [1-9][0-9]{0,8})+", line)
        return (True, tuple(int(word) for word in line.split(" ")[1:])) if found else (False, None)
    return start_like(line, told[0], told[1])


def book_like(text):
    """The book of a text, or the index of its first bad line, by other means than the program's."""
    told = []
    lines = text.split("\n")
    for index, line in enumerate(lines):
        line = re.sub(" +", " ", line).strip(" ")
        if line == "":
            continue
        right, part = head_like(line, told) if len(told) < 3 else entry_like(line, told[0], told[1])
        if not right:
            return index
        told.append(part)
    if len(told) < 3:
        return len(lines)
    return ((told[0], told[1]), told[2], tuple(told[3:]))


def run_like(many, text):
    """The run of a text, or the index of its first bad line, by other means than the program's."""
    moves = []
    for index, line in enumerate(text.split("\n")):
        line = re.sub(" +", " ", line).strip(" ")
        found = re.fullmatch("(ask|strike) ([^ ]+)(?: down((?: [^ ]+)+))?", line)
        if line == "":
            continue
        if not found:
            return index
        word, thing = found[1], number_below(found[2], many)
        downs = tuple(number_below(down, many) for down in (found[3] or "").split(" ")[1:])
        if thing is None or None in downs or (word == "strike" and downs != ()):
            return index
        moves.append((word, thing, downs))
    return tuple(moves)


def altered(dice, text, words):
    """The text with some lines and words otherwise."""
    lines = [line.split(" ") for line in text.split("\n")]
    for _ in range(dice.randrange(4)):
        line = dice.choice(lines) if lines else []
        at = dice.randrange(len(line) + 1)
        how = dice.randrange(9)
        if how == 0:
            lines.insert(dice.randrange(len(lines) + 1), [dice.choice(["", " ", "ask 0 out", "rooms 1", "start any"])])
        elif how == 1 and line in lines:
            lines.remove(line)
        elif how == 2:
            lines.insert(dice.randrange(len(lines) + 1), list(line))
        elif how == 3 and lines:
            lines.append(lines.pop(dice.randrange(len(lines))))
        elif how == 4:
            del line[at:at + 1]
        elif how == 5:
            line.insert(at, dice.choice(["", " ", "  "]))
        elif how == 6:
            line.insert(at, dice.choice(words))
        else:
            line[at:at + 1] = [dice.choice(words)]
    return "\n".join(" ".join(line) for line in lines)


WORDS = ["0", "1", "2", "3", "4", "00", "01", "+1", "-1", "-0", "1.0", "123456789", "1234567890", "0123456789", "out",
         "any", "ask", "strike", "start", "rooms", "things", "down", "OUT", "Ask", "out1", "1out", "none", "x", "~", ",",
         "1,", "_", "1_0", "0x1", "asks", "'", "1;"]


class TestBooks(Case):

    def test_by_hand(self):
        self.same(read_book(HEAD + "\nask 2 out\nstrike 0 1"),
                  (HOUSE, (1, 0, 2, 1), (("ask", 2, 2), ("strike", 0, 1))))
        self.same(read_book("things 0\n\nrooms 3\nstart"), ((0, (3,)), (), ()))
        self.same(read_book("things 4\nrooms 1 1\nstart any"), ((4, (1, 1)), None, ()))
        self.same(read_book("things 2\nrooms 2\nstart any\nask 1 0"), ((2, (2,)), None, (("ask", 1, 0),)))
        self.same(read_book("things 10\nrooms 12 1 10\nstart 0 0 0 0 0 0 0 0 0 2\nstrike 9 2\nstrike 9 2"),
                  ((10, (12, 1, 10)), (0,) * 9 + (2,), (("strike", 9, 2),) * 2))

    def test_loose_texts(self):
        self.same(read_book("  things   4 \n\n \nrooms 1  2\n   \n start 1 0   out 1  \n\n ask  2   out \n\n\n"),
                  (HOUSE, (1, 0, 2, 1), (("ask", 2, 2),)))
        self.same(read_book("\n\n things 0 \n rooms   3 \n   start   \n"), ((0, (3,)), (), ()))
        self.same(read_book(" things 1\nrooms 1\nstart  any "), ((1, (1,)), None, ()))

    def test_lines_without_words_are_counted(self):
        self.fails(NoText, {"line": 5}, read_book, "\nthings 4\n  \nrooms 1 2\n\nstart 0\nask")
        self.fails(NoText, {"line": 2}, read_book, "\n   \nthing 4")
        self.fails(NoText, {"line": 7}, read_book, HEAD + "\n\n\nask 0 1\n \nask 0 0 0")
        self.fails(NoText, {"line": 6}, read_book, HEAD.replace("\n", "\n\n") + "\n\nask 4 0")

    def test_lacking_lines(self):
        for text, line in [("", 1), ("\n", 2), (" ", 1), (" \n \n ", 3), ("things 4", 1), ("things 4\n", 2),
                           ("things 4\nrooms 1 2", 2), ("things 4\n\nrooms 1 2\n\n", 5), ("\n\nthings 0\n", 4)]:
            self.fails(NoText, {"line": line}, read_book, text)

    def test_first_bad_line(self):
        self.fails(NoText, {"line": 1}, read_book, "things 4\nrooms 0\nstart x\nask")
        self.fails(NoText, {"line": 3}, read_book, HEAD + "\nask 2\nask 2\nask 2 out")
        self.fails(NoText, {"line": 4}, read_book, HEAD + "\nask 2 out\nask 2 3\nfind 1 1")
        self.fails(NoText, {"line": 0}, read_book, "things\nrooms\nstart\nask")

    def test_order_of_the_first_lines(self):
        lines = HEAD.split("\n")
        for order, line in [((1, 0, 2), 0), ((2, 0, 1), 0), ((0, 2, 1), 1), ((1, 2, 0), 0), ((2, 1, 0), 0)]:
            self.fails(NoText, {"line": line}, read_book, "\n".join(lines[at] for at in order))
        self.fails(NoText, {"line": 0}, read_book, "ask 2 out\n" + HEAD)
        self.fails(NoText, {"line": 1}, read_book, "things 4\nask 2 out\nrooms 1 2\nstart any")
        self.fails(NoText, {"line": 2}, read_book, "things 4\nrooms 1 2\nask 2 out\nstart any")
        self.fails(NoText, {"line": 1}, read_book, "things 4\nstrike 0 out")
        self.fails(NoText, {"line": 0}, read_book, "rooms 1 2")
        self.fails(NoText, {"line": 1}, read_book, "things 0\nstart")

    def test_first_lines_twice(self):
        lines = HEAD.split("\n")
        for at in range(3):
            for place in range(at + 1, 4):
                text = "\n".join(lines[:place] + [lines[at]] + lines[place:])
                self.fails(NoText, {"line": place}, read_book, text)
            self.fails(NoText, {"line": 4}, read_book, HEAD + "\nask 2 out\n" + lines[at])

    def test_bad_lines(self):
        for line in ["thing 4", "Things 4", "things", "things 4 4", "things x", "things 04", "things 00", "things +4",
                     "things -4", "things -0", "things any", "things out", "things 1234567890", "things 0000000001",
                     "4", "things4", "things 4.", "things 4,", "things 1_0", "things 0x4",
                     "4 things", "things 4 rooms 1 2", "things 10000000000000000000000000000000000000000", "ask 0 0"]:
            self.fails(NoText, {"line": 0}, read_book, line + "\nrooms 1 2\nstart 1 0 out 1")
        for line in ["rooms", "rooms 0", "rooms 1 0", "rooms 0 2", "rooms 01 2", "rooms 1 +2", "rooms -1 2", "rooms x",
                     "rooms 1 out", "rooms 1,2", "room 1 2", "rooms any", "rooms 1 1234567890", "rooms 1 -0",
                     "Rooms 1 2", "rooms 00", "rooms 1 2 x", "rooms 1 2 0", "rooms 1 2 start", "things 4"]:
            self.fails(NoText, {"line": 1}, read_book, "things 4\n" + line + "\nstart 1 0 out 1")
        for line in ["start", "start 1 0 out", "start 1 0 out 1 1", "start 1 0 2 1", "start 1 0 3 1", "start 1 0 -1 1",
                     "start 0 0 out 1", "start 1 1 1 out", "start any any", "start Any", "start 1 0 any 1", "any",
                     "start any 1 0 out 1", "start 1 0 OUT 1", "start 01 0 out 1", "start 1 00 out 1",
                     "start 1 +0 out 1", "start 1 0 o 1", "start none", "start out", "starts 1 0 out 1",
                     "start 1 0 out 1234567890", "start 1 0 out 0000000001", "start 1 -0 out 1"]:
            self.fails(NoText, {"line": 2}, read_book, "things 4\nrooms 1 2\n" + line)
        for line in ["ask", "ask 2", "ask 2 out 1", "ask 4 out", "ask 2 2", "ask 2 3", "ask -1 out", "ask 02 out",
                     "ask +2 out", "ask 2 +1", "ask 2 01", "ask 2 -1", "ask 2 any", "ask 2 Out", "ask out 2",
                     "ask 2 out out", "strike", "strike 0", "strike 4 1", "strike 0 2", "strike 0 1 1", "find 0 1",
                     "ask 2 down 1", "Ask 2 out", "strike 0 none", "ask 0 00", "ask 00 0", "ask 0000000001 0",
                     "ask 1 1234567890", "ask 123456789 0", "out 2 ask", "asks 2 out", "down 2 out", "2 out", "~"]:
            self.fails(NoText, {"line": 4}, read_book, HEAD + "\nask 2 out\n" + line + "\nask 0 0")

    def test_numbers_of_nine_digits(self):
        self.same(read_book("things 999999999\nrooms 123456789 100000000\nstart any\nask 999999998 1"),
                  ((999999999, (123456789, 100000000)), None, (("ask", 999999998, 1),)))
        self.fails(NoText, {"line": 0}, read_book, "things 1000000000\nrooms 1\nstart any")
        self.fails(NoText, {"line": 2}, read_book, "things 223456788\nrooms 123456789 100000000\nstart any")

    def test_starts(self):
        self.fails(NoText, {"line": 2}, read_book, "things 2\nrooms 1 2\nstart any")
        self.same(read_book("things 3\nrooms 1 2\nstart any"), ((3, (1, 2)), None, ()))
        self.fails(NoText, {"line": 2}, read_book, "things 0\nrooms 1\nstart any")
        self.fails(NoText, {"line": 2}, read_book, "things 0\nrooms 1\nstart out")
        self.fails(NoText, {"line": 2}, read_book, "things 1\nrooms 1\nstart")

    def test_things_that_are_not_there(self):
        self.fails(NoText, {"line": 3}, read_book, "things 0\nrooms 1\nstart\nask 0 out")
        for floors in range(1, 5):
            head = "things 1\nrooms" + " 1" * floors + "\nstart out\n"
            self.same(read_book(head + "ask 0 out")[2], (("ask", 0, floors),))
            self.same(read_book(head + f"ask 0 {floors - 1}")[2], (("ask", 0, floors - 1),))
            self.fails(NoText, {"line": 3}, read_book, head + f"ask 0 {floors}")
            self.fails(NoText, {"line": 3}, read_book, head + "ask 1 0")
            self.fails(NoText, {"line": 2}, read_book, head.replace("out", str(floors)))

    def test_shown_and_read(self):
        for house in HOUSES:
            floors = range(len(house[1]) + 1)
            log = tuple((word, x, floor) for word in ("ask", "strike") for x in range(house[0]) for floor in floors)
            starts = states_by_counting(house)[::7] + [(len(house[1]),) * house[0]]
            for start in starts + ([None] if house[0] >= sum(house[1]) else []):
                for part in (log, log[:1], log[-2:], ()):
                    self.same(read_book(show_book(house, start, part)), (house, start, part), house, start, part)

    def test_altered_texts(self):
        dice = random.Random(15)
        texts = [HEAD + "\nask 2 out\nstrike 0 1", "things 0\nrooms 3\nstart", "things 4\nrooms 1 1\nstart any\nask 3 1",
                 "things 3\nrooms 2 1\nstart 0 1 0\nask 0 0\nask 1 1", "things 2\nrooms 1\nstart any\nstrike 1 out"]
        right = 0
        for text in texts * 1500:
            text = altered(dice, text, WORDS)
            want = book_like(text)
            if isinstance(want, int):
                self.fails(NoText, {"line": want}, read_book, text)
            else:
                right += 1
                self.same(read_book(text), want, text)
        self.assertGreater(right, 1000)

    def test_wrong(self):
        values = odd_values() + [[HEAD], (HEAD,), {HEAD: HEAD}, ["things 0", "rooms 1", "start"], 4, HOUSE]
        for value in values + [Wrong(0), Nothing()]:
            if isinstance(value, str):
                self.fails(NoText, {"line": book_like(value)}, read_book, value)
            else:
                self.fails(Wrong, {"place": 0}, read_book, value)


class TestRuns(Case):

    def test_by_hand(self):
        self.same(read_run(HOUSE, " ask 2 down 1 0"), (("ask", 2, (1, 0)),))
        self.same(read_run(HOUSE, "ask 2\nstrike 3\nask 0 down 3 3 3 3 3"),
                  (("ask", 2, ()), ("strike", 3, ()), ("ask", 0, (3,) * 5)))
        self.same(read_run(HOUSE, "\n  \n ask   2   down 1   0  \n\n  strike  3 \n"),
                  (("ask", 2, (1, 0)), ("strike", 3, ())))
        self.same(read_run((12, (1,)), "ask 11 down 10 0"), (("ask", 11, (10, 0)),))
        for text in ("", " ", "\n", "  \n\n "):
            self.same(read_run(HOUSE, text), ())
            self.same(read_run((0, (1,)), text), ())

    def test_bad_lines(self):
        for line in ["ask", "strike", "ask 2 down", "ask 4", "ask -1", "ask 02", "ask +2", "ask 2 1", "ask 2 1 0",
                     "ask 2 down 4", "ask 2 down 1 x", "ask 2 down 01", "ask 2 down out", "ask 2 down -1",
                     "ask 2 down 1 down 0", "ask 2 up 1", "strike 3 down", "strike 3 down 1", "strike 3 1", "strike 4",
                     "strike 03", "find 3", "Ask 2", "down 1", "2", "ask out", "ask 2 out", "strike 3 out", "things 4",
                     "ask 0000000002", "ask 1234567890", "ask 2 down 1234567890", "ask 2 down +1", "ask 2 Down 1",
                     "ask down 1", "down 2 ask", "ask 2, down 1", "ask 2 down 1,0", "ask.2", "~"]:
            self.fails(NoText, {"line": 0}, read_run, HOUSE, line)
            self.fails(NoText, {"line": 3}, read_run, HOUSE, "ask 2\n\nstrike 3\n" + line + "\nask\nask 1")
        self.fails(NoText, {"line": 0}, read_run, (0, (1,)), "ask 0")
        self.fails(NoText, {"line": 1}, read_run, (0, (1,)), "\nstrike 0")

    def test_shown_and_read(self):
        for house in HOUSES:
            things = range(house[0])
            moves = [("ask", x, downs) for x in things for long in range(3)
                     for downs in itertools.product(things, repeat=long)] + [("strike", x, ()) for x in things]
            for run in (tuple(moves), tuple(moves[:1]), tuple(moves[-1:]), tuple(moves[::5]), ()):
                self.same(read_run(house, show_run(run)), run, house, run)

    def test_altered_texts(self):
        dice = random.Random(16)
        texts = ["ask 2 down 1 0\nstrike 3", "ask 0\nask 1\nstrike 2", "strike 0", "ask 3 down 3\nask 1 down 0 1 2"]
        right = 0
        for text in texts * 1500:
            text = altered(dice, text, WORDS)
            want = run_like(4, text)
            if isinstance(want, int):
                self.fails(NoText, {"line": want}, read_run, HOUSE, text)
            else:
                right += 1
                self.same(read_run(HOUSE, text), want, text)
        self.assertGreater(right, 1000)

    def test_wrong_house(self):
        values = odd_values() + part_changes(HOUSE) + [Wrong(0), (4, ()), (4, (0,)), (-1, (1,)), (True, (1,))]
        wrong = [house for house in values if not house_like(house)]
        self.assertGreater(len(wrong), 40)
        for house in wrong:
            for text in ("", "ask 0", "x", None, 0, house, ["ask 0"]):
                self.fails(Wrong, {"place": 0}, read_run, house, text)

    def test_wrong_text(self):
        for text in odd_values() + [HOUSE, ["ask 0"], ("ask", 0, ()), (("ask", 0, ()),), Nothing()]:
            if isinstance(text, str):
                want = run_like(4, text)
                if isinstance(want, int):
                    self.fails(NoText, {"line": want}, read_run, HOUSE, text)
            else:
                self.fails(Wrong, {"place": 1}, read_run, HOUSE, text)
                self.fails(Wrong, {"place": 1}, read_run, (10 ** 39, (10 ** 39,)), text)


if __name__ == "__main__":
    unittest.main()
