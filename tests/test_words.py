"""Point [19]: words."""

import itertools
import random
import unittest

from floorkeepers.words import is_nested, known_sizes, tightened
from tests.helper import Case, all_words, exact, nested_like, tight


def least_words(rows, sizes):
    """The least tight words of these sizes that are nowhere less than rows, by going through all words."""
    choices = [[word for word in all_words(len(row) - 1) if word[-1] == size and over(word, row)]
               for row, size in zip(rows, sizes)]
    found = [words for words in itertools.product(*choices) if tight(words)]
    if not found:
        return None
    least = tuple(tuple(min(some) for some in zip(*lot)) for lot in zip(*found))
    assert least in found
    return least


def over(word, row):
    return all(number >= less for number, less in zip(word, row))


class TestKnown(Case):

    def test_sizes(self):
        self.same(known_sizes(((2, 1, 0, 3), ((0, 1, 1, 1, 1), (0, 1, 1, 2, 2)))), (1, 2))
        self.same(known_sizes(((), ((0,), (0,), (0,)))), (0, 0, 0))
        self.same(known_sizes(((0, 1, 2), ((0, 1, 2, 3),))), (3,))
        self.same(known_sizes(((1, 0), ((0, 0, 0), (0, 0, 1), (0, 0, 1), (0, 1, 2)))), (0, 1, 1, 2))
        for many in range(4):
            for words in itertools.product(all_words(many), repeat=2):
                self.same(known_sizes((tuple(range(many)), words)), tuple(word[many] for word in words), words)

    def test_nested(self):
        order = (2, 1, 0, 3)
        for words, want in [(((0, 1, 1, 1, 1), (0, 1, 1, 2, 2)), True), (((0, 0, 0, 0, 0), (0, 1, 1, 2, 2)), True),
                            (((0, 1, 1, 1, 1), (0, 1, 1, 1, 1)), True), (((0, 0, 1, 1, 1), (0, 1, 1, 2, 2)), False),
                            (((0, 1, 1, 1, 2), (0, 1, 2, 3, 3)), False), (((0, 0, 1, 2, 2), (0, 1, 1, 2, 2)), False),
                            (((0, 1, 1, 1, 1),), True), (((0, 0, 0, 0, 0),), True)]:
            self.same(is_nested((order, words)), want, words)

    def test_nested_of_all_neighbours(self):
        # The last floor's word has to go up with that ahead of it; the first and the last alone are not enough.
        self.same(is_nested(((0, 1, 2), ((0, 0, 0, 1), (0, 1, 1, 2), (0, 0, 1, 2)))), False)
        self.same(is_nested(((0, 1, 2), ((0, 0, 0, 1), (0, 1, 1, 2), (0, 1, 2, 3)))), True)
        self.same(is_nested(((0, 1, 2), ((0, 0, 1, 1), (0, 1, 1, 2), (0, 1, 2, 3)))), False)
        self.same(is_nested(((), ((0,), (0,), (0,), (0,)))), True)

    def test_nested_of_all_words(self):
        for many, floors in [(0, 1), (1, 2), (2, 2), (3, 2), (4, 2), (2, 3), (3, 3), (2, 4), (3, 1)]:
            for words in itertools.product(all_words(many), repeat=floors):
                if tight(words):
                    known = (tuple(range(many))[::-1], words)
                    self.same(is_nested(known), nested_like(words), known)


class TestTightened(Case):

    def check(self, rows, sizes):
        ahead = exact((rows, sizes))
        want = least_words(rows, sizes)
        got = tightened(rows, sizes)
        self.same(got, want, rows, sizes)
        self.assertEqual(exact((rows, sizes)), ahead)
        if want is not None:
            self.same(tightened(got, sizes), want, rows, sizes)
            self.same(tightened(got, tuple(word[-1] for word in got)), want, rows, sizes)

    def test_by_hand(self):
        self.same(tightened(((0, 0, 1), (0, 0, 0)), (1, 1)), ((0, 0, 1), (0, 0, 1)))
        self.same(tightened(((0, 0, 0), (0, 0, 0)), (2, 2)), ((0, 1, 2), (0, 1, 2)))
        self.same(tightened(((0, 2),), (1,)), None)
        # What the first floor has, the next one has; what the next one has, the first one has but for some.
        self.same(tightened(((0, 1, 0, 0), (0, 0, 0, 0)), (1, 1)), ((0, 1, 1, 1), (0, 1, 1, 1)))
        self.same(tightened(((0, 0, 0, 0), (0, 0, 2, 0)), (1, 2)), ((0, 0, 1, 1), (0, 1, 2, 2)))
        self.same(tightened(((0, 0, 0, 0), (0, 0, 0, 0), (0, 0, 2, 0)), (0, 1, 2)),
                  ((0, 0, 0, 0), (0, 0, 1, 1), (0, 1, 2, 2)))
        self.same(tightened(((0, 1, 0, 0), (0, 0, 0, 0), (0, 0, 0, 0)), (1, 2, 3)),
                  ((0, 1, 1, 1), (0, 1, 1, 2), (0, 1, 2, 3)))

    def test_noughts(self):
        for many in range(5):
            for floors in range(1, 4):
                for sizes in itertools.product(range(-1, many + 2), repeat=floors):
                    self.check(((0,) * (many + 1),) * floors, sizes)

    def test_below_nought(self):
        low = (-3, -10 ** 20, -1, 0)
        self.same(tightened((low, low), (0, 0)), ((0, 0, 0, 0), (0, 0, 0, 0)))
        self.same(tightened((low, low), (1, 2)), ((0, 0, 0, 1), (0, 0, 1, 2)))
        self.same(tightened(((-1,), (-2,)), (0, 0)), ((0,), (0,)))
        self.same(tightened(((-1, -1, 1), (-5, -5, -5)), (1, 1)), ((0, 0, 1), (0, 0, 1)))

    def test_beyond(self):
        self.same(tightened(((1, 1),), (1,)), None)
        self.same(tightened(((0, 1, 2),), (1,)), None)
        self.same(tightened(((0, 0, 2),), (1,)), None)
        self.same(tightened(((0, 0, 2),), (2,)), ((0, 1, 2),))
        self.same(tightened(((0, 0, 1),), (0,)), None)
        self.same(tightened(((0, 0, 0), (0, 0, 2)), (0, 1)), None)
        self.same(tightened(((0, 0, 0), (0, 0, 10 ** 30)), (0, 1)), None)
        self.same(tightened(((0, 0, 0),), (3,)), None)
        self.same(tightened(((0, 0, 0), (0, 0, 0)), (2, 3)), None)
        self.same(tightened(((0, 0, 0), (0, 0, 0)), (10 ** 30, 10 ** 30)), None)
        self.same(tightened(((0, 1, 1, 1), (0, 0, 0, 0)), (1, 0)), None)

    def test_sizes_that_cannot_be(self):
        for sizes in [(1, 0), (2, 1), (-1, 0), (-1, -1), (0, -1), (-1, 1), (-2, -1), (3, 2)]:
            self.same(tightened(((0, 0, 0, 0), (0, 0, 0, 0)), sizes), None, sizes)
            self.same(tightened(((0,), (0,)), sizes), None, sizes)
            self.same(tightened(((-9, -9, -9), (-9, -9, -9)), sizes), None, sizes)
        for sizes in [(0, 1, 0), (1, 0, 1), (0, 0, -1), (1, 2, 1)]:
            self.same(tightened(((0, 0, 0),) * 3, sizes), None, sizes)
        self.same(tightened(((0, 0),), (-1,)), None)

    def test_no_things(self):
        for floors in range(1, 5):
            for row in itertools.product((-1, 0, 1), repeat=floors):
                rows = tuple((number,) for number in row)
                want = ((0,),) * floors if max(row) <= 0 else None
                self.same(tightened(rows, (0,) * floors), want, rows)
                self.same(tightened(rows, (0,) * (floors - 1) + (1,)), None, rows)
                self.same(tightened(rows, (1,) * floors), None, rows)

    def test_all_small_rows(self):
        for many, floors, most in [(1, 1, 2), (2, 1, 3), (3, 1, 2), (1, 2, 2), (2, 2, 2), (1, 3, 2)]:
            rows = list(itertools.product(range(-1, most + 1), repeat=many + 1))
            lots = list(itertools.product(rows, repeat=floors))
            for lot in lots[::len(lots) // 2000 + 1]:
                for sizes in itertools.product(range(-1, many + 2), repeat=floors):
                    self.check(lot, sizes)

    def test_some_rows(self):
        dice = random.Random(21)
        told = 0
        for many, floors in [(3, 2), (4, 2), (5, 2), (6, 1), (3, 3), (4, 3), (2, 4), (3, 4), (4, 4), (7, 2)] * 60:
            sizes = tuple(sorted(dice.randrange(many + 1) for _ in range(floors)))
            if dice.randrange(8) == 0:
                sizes = tuple(dice.randrange(-1, many + 2) for _ in range(floors))
            rows = tuple(self.some_row(dice, many, size) for size in sizes)
            self.check(rows, sizes)
            told += tightened(rows, sizes) is not None
        self.assertGreater(told, 200)

    def some_row(self, dice, many, size):
        """A row that grows or not, mostly not beyond the size."""
        row = [0] * (many + 1)
        for d in range(dice.randrange(2), many + 1):
            if dice.randrange(3) == 0:
                row[d] = dice.randrange(-1, min(d, max(size, 0)) + 1)
        if dice.randrange(12) == 0:
            row[dice.randrange(many + 1)] = dice.randrange(many + 2)
        return tuple(row)

    def test_what_was_told_is_told_again(self):
        for many, floors in [(0, 3), (1, 4), (2, 3), (3, 2), (4, 2), (4, 1)]:
            for words in itertools.product(all_words(many), repeat=floors):
                sizes = tuple(word[-1] for word in words)
                self.same(tightened(words, sizes) == words, tight(words) and list(sizes) == sorted(sizes), words)

    def test_long_words(self):
        row = (0,) * 17
        self.same(tightened((row, row, row, row), (3, 6, 9, 12)),
                  tuple(tuple(max(0, size + d - 16) for d in range(17)) for size in (3, 6, 9, 12)))
        front = tuple(min(d, 3) for d in range(17))
        self.same(tightened((front, row, row, row), (3, 6, 9, 12)),
                  tuple(tuple(max(min(d, 3), size + d - 16) for d in range(17)) for size in (3, 6, 9, 12)))
        back = tuple(min(d, 12) for d in range(17))
        self.same(tightened((row, row, row, back), (3, 6, 9, 12)),
                  tuple(tuple(max(0, size + d - 16, min(d, 12) - 12 + size) for d in range(17))
                        for size in (3, 6, 9, 12)))

    def test_rooms_are_not_asked(self):
        self.same(tightened(((0,) * 41, (0,) * 41), (0, 40)), ((0,) * 41, tuple(range(41))))


if __name__ == "__main__":
    unittest.main()
