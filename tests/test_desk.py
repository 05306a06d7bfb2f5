"""Point [38]: desks."""

import random
import unittest

from floorkeepers.desk import Desk
from floorkeepers.errors import Broken, CannotBe, NoCommand, NoDuty, NoText, Nothing, Wrong
from floorkeepers.hall import Hall
from floorkeepers.leading import knowledge_behind
from floorkeepers.live import Live
from floorkeepers.texts import show_book
from tests.helper import (BIG, Case, HOUSES, all_behind, big_starts, entries_of, first_states, odd_values, random_run,
                          some_log, starts_of)

HEAD = "things 4\nrooms 1 1\nstart out out out out\n"
TEXT = HEAD + "ask 0 out\nask 1 out"
HOUSE, EMPTY = (4, (1, 1)), (2, 2, 2, 2)
LOG = (("ask", 0, 2), ("ask", 1, 2))


def led_live(house, start, log):
    live = Live(house, start)
    for entry in log:
        live.enter(entry)
    return live


class TestText(Case):

    def test_by_hand(self):
        self.assertTrue(Desk(TEXT).live() == led_live(HOUSE, EMPTY, LOG))
        self.assertTrue(Desk(HEAD).live() == Live(HOUSE, EMPTY))
        self.assertTrue(Desk("\n things  3\n\nrooms 1 1\nstart any\n strike 2 out ").live()
                        == led_live((3, (1, 1)), None, (("strike", 2, 2),)))
        self.assertTrue(Desk("things 0\nrooms 2\nstart").live() == Live((0, (2,)), ()))

    def test_texts_that_are_none(self):
        for text, line in [("", 1), ("\n\n", 3), ("things 4", 1), (HEAD + "ask 4 out", 3), (HEAD + "ask 0 2", 3),
                           (HEAD + "\nask 0 out\nask 00 out\nask 1 1", 5), ("things 04\n", 0), ("rooms 1", 0),
                           ("things 4\nrooms 0", 1), ("things 4\nrooms 1 1\nstart out out out", 2),
                           ("things 1\nrooms 1 1\nstart any", 2), (HEAD + "back", 3), (HEAD + "owe within 0 0", 3),
                           (TEXT + "\nask 0 1 1", 5), ("x" * 3000, 0), ("\n" * 3000, 3001)]:
            self.fails(NoText, {"line": line}, Desk, text)

    def test_logs_that_cannot_be(self):
        for told, index in [("ask 0 1", 0), ("ask 0 out\nask 0 out", 1), ("ask 0 out\n\nask 1 out\nask 2 1\nask 3 0", 2)]:
            self.fails(CannotBe, {"index": index}, Desk, HEAD + told)
        # Bad lines come first, wherever they stand.
        self.fails(NoText, {"line": 5}, Desk, HEAD + "ask 0 1\nask 0 1\nask 9 1")

    def test_wrong(self):
        others = [TEXT.split("\n"), (TEXT,), [TEXT], {TEXT: TEXT}, Hall(HOUSE, EMPTY), Live(HOUSE, EMPTY), Desk(TEXT),
                  Nothing()]
        for text in odd_values() + others:
            if isinstance(text, str):
                continue
            self.fails(Wrong, {"place": 0}, Desk, text)
            self.fails(Wrong, {"place": 0}, Desk(TEXT).execute, text)

    def test_entries_are_taken_back_too(self):
        desk = Desk(TEXT)
        self.same([desk.execute("back"), desk.execute("book")],
                  [[], ["things 4", "rooms 1 1", "start out out out out", "ask 0 out"]])
        desk.execute("back")
        self.fails(Nothing, {}, desk.execute, "back")
        self.same([desk.execute("again"), desk.execute("again"), desk.execute("order")], [[], [], ["1", "0", "2", "3"]])
        self.fails(Nothing, {}, desk.execute, "again")


class TestExecute(Case):

    def test_by_hand(self):
        desk = Desk(HEAD + "ask 0 out")
        self.same([desk.execute(" ask 1 out"), desk.execute("ask 2 out"), desk.execute("floors 1"), desk.execute("word 1")],
                  [[], [], ["1", "out"], ["0", "1", "1", "2", "2"]])
        self.same([desk.execute("owe within 2 0"), desk.execute("duties"), desk.execute("order"), desk.execute("book")[2:4]],
                  [[], ["within 2 0"], ["2", "1", "0", "3"], ["start out out out out", "ask 0 out"]])
        self.same([desk.execute("word 0"), desk.execute("floors 3"), desk.execute("floors 2")],
                  [["0", "1", "1", "1", "1"], ["out"], ["0"]])
        self.same([desk.execute("owe beyond 3 1"), desk.execute("owe within 2 1"), desk.execute("duties")],
                  [[], [], ["beyond 3 1", "within 2 0", "within 2 1"]])
        self.same([desk.execute("strike 0 1"), desk.execute("floors 1"), desk.execute("book")[-1]],
                  [[], ["out"], "strike 0 1"])
        self.same([desk.execute("free within 2 0"), desk.execute("free beyond 3 1"), desk.execute("duties")],
                  [[], [], ["within 2 1"]])
        self.same([desk.execute("back"), desk.execute("duties"), desk.execute("again"), desk.execute("duties")],
                  [[], ["beyond 3 1", "within 2 1"], [], ["within 2 1"]])

    def test_starts_and_houses(self):
        desk = Desk("things 3\nrooms 1 1\nstart any")
        self.same([desk.execute("book"), desk.execute("floors 0"), desk.execute("duties"), desk.execute("order")],
                  [["things 3", "rooms 1 1", "start any"], ["0", "1", "out"], [], ["0", "1", "2"]])
        desk = Desk("things 0\nrooms 2 1\nstart")
        self.same([desk.execute("book"), desk.execute("order"), desk.execute("word 1")],
                  [["things 0", "rooms 2 1", "start"], [], ["0"]])
        self.fails(NoCommand, {}, desk.execute, "floors 0")
        desk = Desk("things 2\nrooms 1\nstart 0 out")
        self.same([desk.execute("ask 1 out"), desk.execute("book")[-1], desk.execute("floors 0")], [[], "ask 1 out", ["out"]])

    def test_blanks(self):
        for line, want in [("   order", ["1", "0", "2", "3"]), ("order   ", ["1", "0", "2", "3"]),
                           ("  floors    0  ", ["1"]), ("word  0", ["0", "1", "1", "1", "1"]), ("  owe  within   1 0 ", []),
                           (" ask  2   out ", []), ("  back ", []), (" again  ", [])]:
            desk = Desk(TEXT + "\nask 3 out")
            desk.execute("back")
            self.same(desk.execute(line), want, line)

    def test_no_commands(self):
        lines = ["", " ", "    ", "\n", "ask", "ask 0", "ask 0 1 1", "ask out 0", "ask 00 1", "ask 0 01", "ask +0 1",
                 "ask 0 -1", "ask 4 out", "ask 0 2", "ask 0 OUT", "Ask 0 1", "strike 0", "strike 4 0", "strike 0 2",
                 "ask 0000000000 1", "ask 0 1000000000", "ask 0 0 down 1", "owe 1 0", "owe within 1", "owe within 1 out",
                 "owe within 1 2", "owe within 4 0", "owe within 01 0", "owe below 1 0", "owe within within 1 0",
                 "owe within 1 0 0", "free 1 0", "free within 1", "free within 1 out", "free within 4 0", "free in 1 0",
                 "free beyond 1 00", "back 1", "back back", "again again", "Back", "backagain", "floors", "floors 4",
                 "floors 01", "floors out", "floors 0 1", "floors -0", "order 0", "word", "word out", "word 2", "word 00",
                 "word 0 0", "duties 0", "duties within", "book 0", "books", "things 4", "rooms 1 1", "start any", "within 1 0",
                 "ask\t0 1", "x" * 3000, " " * 3000, "back\n", "\nback", "order\norder", "ask 0\n1", "ask 0 1\n", "book\n\n",
                 "floors 1\n", "owe within\n1 0", "duties \n", "live", "ask 0 1.", "ask 0x0 1", "ask 1_0 1", "undo", "twin"]
        desk = Desk(TEXT)
        desk.execute("owe within 1 0")
        desk.execute("back")
        for line in lines:
            self.fails(NoCommand, {}, desk.execute, line)
        # Nothing has changed: what was taken back can be done again still.
        desk.execute("again")
        self.same([desk.execute("duties"), desk.execute("book")[3:]], [["within 1 0"], ["ask 0 out", "ask 1 out"]])

    def test_what_the_live_raises(self):
        desk = Desk(TEXT)
        self.fails(CannotBe, {"index": 2}, desk.execute, "ask 2 0")
        self.fails(CannotBe, {"index": 2}, desk.execute, "strike 0 out")
        self.fails(Broken, {"duty": ("within", 2, 0)}, desk.execute, "owe within 2 0")
        self.fails(Broken, {"duty": ("beyond", 0, 1)}, desk.execute, "owe beyond 0 1")
        self.fails(NoDuty, {"duty": ("beyond", 2, 1)}, desk.execute, "free beyond 2 1")
        self.fails(Nothing, {}, desk.execute, "again")
        desk.execute("owe within 1 0")
        self.fails(Broken, {"duty": ("within", 1, 0)}, desk.execute, "ask 0 1")
        self.fails(NoDuty, {"duty": ("within", 1, 1)}, desk.execute, "free within 1 1")
        self.same([desk.execute("owe within 1 0"), desk.execute("back"), desk.execute("duties")], [[], [], []])

    def test_new_lists(self):
        desk = Desk(TEXT)
        desk.execute("owe within 1 0")
        for line in ("book", "order", "word 0", "duties", "floors 0", "owe within 1 0"):
            self.twice(desk.execute, line)

    def test_twins(self):
        desk = Desk(TEXT)
        live = desk.live()
        self.assertIsInstance(live, Live)
        self.assertIsNot(desk.live(), live)
        live.enter(("strike", 2, 2))
        live.owe(("within", 1, 0))
        self.same([desk.execute("book")[3:], desk.execute("duties")], [["ask 0 out", "ask 1 out"], []])
        for _ in range(4):
            live.back()
        self.fails(Nothing, {}, live.back)
        desk.execute("back")
        twin = desk.live()
        twin.again()
        self.same([twin.log(), desk.live().log()], [LOG, LOG[:1]])
        desk.execute("strike 3 out")
        self.same(twin.log(), LOG)
        self.fails(Nothing, {}, desk.execute, "again")


class TestAgainstALive(Case):

    def show(self, house, floor):
        return "out" if floor == len(house[1]) else str(floor)

    def check(self, desk, house, start, live):
        self.assertTrue(desk.live() == live)
        order, words = live.knowledge()
        self.same(desk.execute("order"), [str(x) for x in order])
        for floor, word in enumerate(words):
            self.same(desk.execute(f"word {floor}"), [str(number) for number in word])
        for x in range(house[0]):
            self.same(desk.execute(f"floors {x}"), [self.show(house, floor) for floor in live.floors(x)])
        self.same(desk.execute("duties"), [f"{word} {x} {floor}" for word, x, floor in live.duties()])
        self.same(desk.execute("book"), show_book(house, start, live.log()).split("\n"))

    def test_small_houses(self):
        dice = random.Random(38)
        for house in [some for some in HOUSES if some[0]]:
            start = dice.choice(starts_of(house))
            log, states = some_log(dice, house, first_states(house, start), 6)
            desk, live = Desk(show_book(house, start, log)), led_live(house, start, log)
            self.check(desk, house, start, live)
            for _ in range(20):
                line, call, given = self.deed(dice, house, live)
                want, got = [self.raised(*some) for some in ((call, *given), (desk.execute, line))]
                self.same(got, [] if want is None else want, line)
                self.check(desk, house, start, live)

    def raised(self, call, *given):
        """What a call returns, or the error that it raises."""
        try:
            return call(*given)
        except ValueError as error:
            return (error.__class__.__name__, list(vars(error).values()))

    def deed(self, dice, house, live):
        """(line, call of the live, arguments)."""
        x, floor = dice.randrange(house[0]), dice.randrange(len(house[1]))
        side = dice.choice(["within", "beyond"])
        found = dice.choice(live.floors(x))
        word = dice.choice(["ask", "ask", "strike"])
        bad = dice.choice(entries_of(house))
        owed = dice.choice(live.duties() + [(side, x, floor)])
        return dice.choice([
            (f"{word} {x} {self.show(house, found)}", live.enter, ((word, x, found),)),
            (f"{bad[0]} {bad[1]}  {self.show(house, bad[2])}", live.enter, (bad,)),
            (f" owe {side} {x} {floor}", live.owe, ((side, x, floor),)),
            (f"free {owed[0]} {owed[1]} {owed[2]} ", live.free, (owed,)), ("back", live.back, ()),
            (" again", live.again, ())])

    def test_large_houses(self):
        dice = random.Random(39)
        for house in BIG:
            for start, state in big_starts(dice, house):
                log = random_run(dice, house, state, 60)[1]
                desk = Desk(show_book(house, start, log))
                self.check(desk, house, start, led_live(house, start, log))
                self.same(desk.live().knowledge(), knowledge_behind(house, start, log))
                for _ in range(60):
                    self.same(desk.execute("back"), [])
                self.fails(Nothing, {}, desk.execute, "back")
                for word, x, floor in log:
                    self.same(desk.execute(f"{word} {x} {self.show(house, floor)}"), [])
                self.check(desk, house, start, led_live(house, start, log))

    def test_entries_that_cannot_be(self):
        dice = random.Random(40)
        for house in [some for some in HOUSES if some[0]]:
            start = dice.choice(starts_of(house))
            log, states = some_log(dice, house, first_states(house, start), 5)
            bad = [entry for entry in entries_of(house) if not all_behind(house, states, entry)]
            for entry in bad[:3]:
                self.fails(CannotBe, {"index": 5}, Desk, show_book(house, start, log + (entry,) + log))


if __name__ == "__main__":
    unittest.main()
