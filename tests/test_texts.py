"""Point [14]: texts."""

import unittest

from floorkeepers.texts import show_book, show_run
from tests.helper import Case, exact


class TestBooks(Case):

    def test_states(self):
        log = (("ask", 2, 2), ("strike", 0, 1))
        self.same(show_book((4, (1, 2)), (1, 0, 2, 1), log),
                  "things 4\nrooms 1 2\nstart 1 0 out 1\nask 2 out\nstrike 0 1")
        self.same(show_book((2, (1,)), (1, 0), (("strike", 0, 1), ("ask", 1, 0), ("ask", 0, 1))),
                  "things 2\nrooms 1\nstart out 0\nstrike 0 out\nask 1 0\nask 0 out")
        self.same(show_book((1, (12, 1, 1, 10)), (3,), (("ask", 0, 3), ("ask", 0, 0), ("strike", 0, 4))),
                  "things 1\nrooms 12 1 1 10\nstart 3\nask 0 3\nask 0 0\nstrike 0 out")

    def test_none(self):
        self.same(show_book((4, (1, 1)), None, ()), "things 4\nrooms 1 1\nstart any")
        self.same(show_book((16, (4, 5)), None, (("ask", 15, 2), ("strike", 10, 0))),
                  "things 16\nrooms 4 5\nstart any\nask 15 out\nstrike 10 0")

    def test_no_things(self):
        self.same(show_book((0, (3,)), (), ()), "things 0\nrooms 3\nstart")
        self.same(show_book((0, (1, 2, 1, 10)), (), ()), "things 0\nrooms 1 2 1 10\nstart")

    def test_no_entries(self):
        self.same(show_book((3, (1, 1, 1, 1)), (4, 4, 4), ()), "things 3\nrooms 1 1 1 1\nstart out out out")
        self.same(show_book((3, (3,)), (0, 0, 0), ()), "things 3\nrooms 3\nstart 0 0 0")

    def test_out_is_that_of_the_house(self):
        for floors in range(1, 5):
            house = (2, (2,) * floors)
            for floor in range(floors + 1):
                word = "out" if floor == floors else str(floor)
                self.same(show_book(house, (floor, floors), (("ask", 0, floor),)).split("\n")[2:],
                          [f"start {word} out", f"ask 0 {word}"])

    def test_many_entries(self):
        log = (("ask", 11, 1), ("strike", 3, 2)) * 30
        lines = show_book((12, (6, 6)), (1,) * 6 + (2,) * 6, log).split("\n")
        self.same(lines[3:], ["ask 11 1", "strike 3 out"] * 30)
        self.same(len(lines), 63)

    def test_nothing_is_changed(self):
        given = ((4, (1, 2)), (1, 0, 2, 1), (("ask", 2, 2),))
        ahead = exact(given)
        self.same(show_book(*given), show_book(*given))
        self.assertEqual(exact(given), ahead)


class TestRuns(Case):

    def test_runs(self):
        self.same(show_run(()), "")
        self.same(show_run((("ask", 2, (1, 0)), ("strike", 3, ()))), "ask 2 down 1 0\nstrike 3")
        self.same(show_run((("ask", 2, ()),)), "ask 2")
        self.same(show_run((("strike", 0, ()),)), "strike 0")
        self.same(show_run((("ask", 0, (10,)),)), "ask 0 down 10")
        self.same(show_run((("ask", 15, (0, 0, 0, 0)), ("ask", 0, ()), ("ask", 1, (2,)))),
                  "ask 15 down 0 0 0 0\nask 0\nask 1 down 2")

    def test_downs_are_things(self):
        # A thing with the number that OUT has in a house is shown as it is.
        self.same(show_run((("ask", 1, (2, 1)), ("ask", 2, (4, 3, 2)))), "ask 1 down 2 1\nask 2 down 4 3 2")

    def test_long_run(self):
        self.same(show_run((("ask", 3, (1, 2)), ("strike", 1, ())) * 30),
                  "\n".join(["ask 3 down 1 2\nstrike 1"] * 30))


if __name__ == "__main__":
    unittest.main()
