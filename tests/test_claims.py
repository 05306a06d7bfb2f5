"""Point [26]: claims, with moments, orders and sizes, each rule by itself."""

import random
import unittest

from floorkeepers.claims import follows, greatest_least, is_claim_row
from floorkeepers.leading import first_knowledge, words_through
from tests.helper import (Case, Rules, exact, first_states, number_changes, odd_values, part_changes, random_run,
                          some_log, starts_of, states_by_counting, entries_of)

HOUSE, EMPTY = (4, (1, 1)), (2, 2, 2, 2)
LOG = (("ask", 0, 2), ("ask", 1, 2), ("ask", 2, 2))
HOUSES = [(3, (1, 1)), (3, (2,)), (4, (1, 2)), (3, (1, 1, 1)), (2, (1, 1, 1, 1)), (4, (2, 1)), (2, (3, 1)), (5, (1, 1))]


def rules_of(house, start, log):
    return Rules(house, start, first_knowledge(house, start), log)


def some_logs(dice, house, start, times, long):
    """Logs that can be, and such of any entries."""
    found = []
    for _ in range(times):
        found.append(some_log(dice, house, first_states(house, start), long)[0])
        found.append(tuple(dice.choice(entries_of(house)) for _ in range(long)))
        found.append(found[-2][:long // 2] + found[-1][:long - long // 2])
    return found


class TestFollows(Case):

    def check(self, house, start, log):
        """All claims alone, just at the greatest least and one beyond; and from each claim up to a moment ahead."""
        rules = rules_of(house, start, log)
        places = rules.places()
        for place in places:
            least = rules.alone(place)
            for more, want in [(0, True), (1, False), (-7, True), (10 ** 39, False)]:
                claim = place + (least + more,)
                self.same(follows(house, start, log, None, claim), want, house, start, log, claim)
        return rules, places

    def check_pairs(self, house, start, log, dice, share):
        rules, places = self.check(house, start, log)
        for ahead in dice.sample(places, max(1, len(places) // share)):
            for place in places:
                more = dice.choice([-10 ** 39, -2, -1, 0, 1, 2, 3, 10 ** 39])
                told = rules.behind(ahead + (more,), place)
                if not told:
                    for least in (-10 ** 39 - 9, more, 0, -5):
                        self.same(follows(house, start, log, ahead + (more,), place + (least,)), False,
                                  house, start, log, ahead, more, place, least)
                    continue
                for least, want in [(max(told), True), (max(told) + 1, False), (max(told) - 3, True)]:
                    self.same(follows(house, start, log, ahead + (more,), place + (least,)), want,
                              house, start, log, ahead, more, place, least)

    def test_by_hand(self):
        more = LOG + (("ask", 2, 1),)
        for ahead, claim, want in [((6, 0, 1, 1), (7, 0, 0, 1), True), ((6, 0, 1, 1), (7, 0, 0, 2), False),
                                   ((6, 0, 1, 1), (7, 1, 0, 1), False), ((6, 1, 1, 1), (7, 1, 0, 0), True),
                                   ((6, 1, 1, 1), (7, 1, 0, 1), False), ((6, 1, 1, 1), (7, 1, 1, 1), False),
                                   ((7, 0, 2, 1), (8, 0, 3, 1), True), ((7, 0, 2, 1), (8, 0, 3, 2), False),
                                   ((7, 1, 2, 1), (8, 1, 3, 2), True), ((7, 1, 2, 1), (8, 1, 3, 3), False),
                                   ((7, 1, 2, 1), (8, 1, 2, 1), False), ((7, 1, 2, 1), (6, 1, 2, 1), False),
                                   (None, (6, 0, 1, 1), True), (None, (6, 0, 0, 1), False), (None, (7, 0, 1, 1), False),
                                   (None, (6, 1, 4, 2), True), (None, (6, 1, 3, 1), True), (None, (6, 1, 4, 3), False),
                                   (None, (0, 1, 4, 0), True), (None, (0, 1, 4, 1), False)]:
            self.same(follows(HOUSE, EMPTY, more, ahead, claim), want, ahead, claim)

    def test_beside_by_hand(self):
        # Sizes 1 and 2 behind the log: each rule of one moment, just at its least and one beyond.
        for ahead, place, least in [((6, 0, 1, 1), (6, 0, 2), 1), ((6, 0, 1, 1), (6, 1, 1), 1),
                                    ((6, 1, 3, 2), (6, 1, 2), 1), ((6, 1, 2, 2), (6, 0, 2), 1),
                                    ((6, 1, 2, -4), (6, 0, 2), -5), ((6, 0, 2, 0), (6, 0, 1), -1)]:
            self.same(follows(HOUSE, EMPTY, LOG, ahead, place + (least,)), True, ahead, place)
            self.same(follows(HOUSE, EMPTY, LOG, ahead, place + (least + 1,)), False, ahead, place)
        # What would follow alone does not follow from any claim.
        self.same([follows(HOUSE, EMPTY, LOG, None, (6, 0, 1, 1)), follows(HOUSE, EMPTY, LOG, (6, 0, 1, 1), (6, 0, 1, 1)),
                   follows(HOUSE, EMPTY, LOG, (0, 0, 0, 0), (6, 0, 1, 1)),
                   follows(HOUSE, EMPTY, LOG, (6, 0, 1, 1), (6, 0, 3, 1)),
                   follows(HOUSE, EMPTY, LOG, (6, 0, 1, 1), (6, 1, 2, 0))], [True, False, False, False, False])

    def test_floors_two_apart(self):
        house, start = (4, (1, 1, 1)), (0, 1, 2, 3)
        for ahead, claim, want in [((0, 0, 1, 1), (0, 1, 1, 1), True), ((0, 0, 1, 1), (0, 2, 1, 1), False),
                                   ((0, 2, 3, 3), (0, 1, 3, 2), True), ((0, 2, 3, 3), (0, 0, 3, 1), False),
                                   ((0, 2, 3, 3), (0, 0, 3, -9), False)]:
            self.same(follows(house, start, (), ahead, claim), want, ahead, claim)

    def test_amid_and_behind_by_hand(self):
        # Floor 0 is filled up, floor 1 is not; 3 is found OUT, at the last place of the order (1, 0, 2, 3).
        house, start = (4, (1, 2)), (1, 0, 2, 2)
        log = (("ask", 3, 2), ("strike", 1, 0))
        for ahead, place, least in [((0, 0, 2, 1), (1, 0, 2), 1), ((0, 0, 3, 1), (1, 0, 3), 1),
                                    ((0, 1, 4, 2), (1, 1, 3), 2), ((1, 0, 2, 1), (2, 0, 3), 1),
                                    ((1, 1, 2, 2), (2, 1, 3), 3), ((2, 0, 1, 1), (3, 0, 1), 1),
                                    ((2, 0, 3, 1), (3, 0, 2), 0), ((2, 1, 3, 3), (3, 1, 2), 2),
                                    ((3, 0, 2, 1), (4, 0, 2), 1), ((3, 1, 3, 2), (4, 1, 3), 2)]:
            self.same(follows(house, start, log, ahead, place + (least,)), True, ahead, place)
            self.same(follows(house, start, log, ahead, place + (least + 1,)), False, ahead, place)
        for ahead, claim in [((0, 0, 3, 1), (1, 0, 2, 0)), ((1, 0, 2, 1), (2, 0, 2, 0)), ((3, 0, 2, 1), (4, 0, 3, 0)),
                             ((0, 0, 2, 1), (1, 1, 2, 0)), ((2, 0, 3, 1), (3, 0, 3, 0)), ((2, 0, 2, 1), (1, 0, 1, 0)),
                             ((0, 0, 2, 1), (2, 0, 2, 0)), ((0, 0, 2, 1), (2, 0, 3, 0))]:
            self.same(follows(house, start, log, ahead, claim), False, ahead, claim)

    def test_sizes_below_0_and_down(self):
        # Nothing is there to be struck out: sizes (-1, -1), and (-1, 0) behind an ask; 1 on floor 0 all the same.
        log = (("strike", 0, 0), ("ask", 1, 0), ("strike", 1, 0), ("ask", 2, 2))
        for claim, want in [((2, 0, 0, 0), True), ((2, 0, 4, 0), True), ((2, 0, 4, 1), False), ((4, 0, 1, 1), True),
                            ((4, 0, 1, 2), False), ((8, 0, 4, 1), True), ((6, 0, 4, 1), False)]:
            self.same(follows(HOUSE, EMPTY, log, None, claim), want, claim)
        # The size of floor 0 is 1 behind the first entry, that of floor 1 goes down to 0.
        log = (("ask", 0, 2), ("strike", 0, 1))
        self.same([follows(HOUSE, EMPTY, log, (4, 1, 2, 0), (4, 0, 2, 1)),
                   follows(HOUSE, EMPTY, log, (4, 1, 2, 0), (4, 0, 2, 2)),
                   follows(HOUSE, EMPTY, log, (4, 0, 2, 1), (4, 1, 2, 1))], [True, False, True])

    def test_all_claims(self):
        dice = random.Random(26)
        for house in HOUSES:
            for start in [dice.choice(starts_of(house)), starts_of(house)[-1]]:
                for log in some_logs(dice, house, start, 1, 3):
                    self.check_pairs(house, start, log, dice, 4)

    def test_long_logs(self):
        dice = random.Random(27)
        for house in HOUSES:
            for start in [dice.choice(starts_of(house)), starts_of(house)[-1]]:
                for log in some_logs(dice, house, start, 1, 20):
                    self.check(house, start, log)

    def test_without_things_or_entries(self):
        self.same([follows((0, (1, 2)), (), (), None, (0, 0, 0, 0)), follows((0, (1, 2)), (), (), None, (0, 1, 0, 1)),
                   follows((0, (1, 2)), (), (), (0, 0, 0, 0), (0, 1, 0, 0))], [True, False, True])


class TestRows(Case):

    def test_by_hand(self):
        for row, want in [(((6, 0, 1, 1), (6, 1, 1, 1), (6, 1, 2, 1)), True), (((6, 1, 2, 2),), False), ((), False),
                          (((6, 0, 1, 1),), True), (((6, 0, 1, 1), (6, 0, 1, 1)), False), ([(6, 0, 1, 1)], False),
                          (((6, 0, 1, 1), (6, 1, 1, 2)), False), (((6, 0, 1, True),), False), ((6, 0, 1, 1), False),
                          (((6, 0, 1, 1), (6, 0, 3, 1)), False), (((6, 0, 1, -10 ** 39),), True),
                          (((6, 0, 1, 1, 0),), False), (((6, 0, 1),), False), (((7, 0, 1, 0),), False),
                          (((6, 2, 1, 0),), False), (((6, 0, 5, 0),), False), (((5, 0, 4, 0),), False),
                          (((5, 0, 3, 0),), True), (((-1, 0, 0, 0),), False), (((0, -1, 0, 0),), False),
                          (((0, 0, -1, 0),), False), ((None, (6, 0, 1, 1)), False), (((6, 0, 1, 1), None), False)]:
            self.same(is_claim_row(HOUSE, EMPTY, LOG, row), want, row)

    def test_first_alone_and_others_from_the_one_ahead(self):
        # (6, 1, 1, 1) follows alone, but not from (6, 0, 2, 1).
        self.same([is_claim_row(HOUSE, EMPTY, LOG, ((6, 1, 1, 1),)),
                   is_claim_row(HOUSE, EMPTY, LOG, ((6, 0, 1, 1), (6, 0, 2, 1))),
                   is_claim_row(HOUSE, EMPTY, LOG, ((6, 0, 1, 1), (6, 0, 2, 1), (6, 1, 1, 1))),
                   follows(HOUSE, EMPTY, LOG, (6, 1, 3, 2), (6, 1, 2, 1)),
                   is_claim_row(HOUSE, EMPTY, LOG, ((6, 1, 3, 2), (6, 1, 2, 1)))], [True, True, False, True, False])

    def random_row(self, dice, rules, long):
        """A row of claims, mostly at the greatest least."""
        place = dice.choice(rules.places())
        row = [place + (rules.alone(place) - (dice.randrange(4) == 0),)]
        for _ in range(long):
            found = [(some, max(told)) for some in rules.places() if (told := rules.behind(row[-1], some))]
            if found:
                some, least = dice.choice(found)
                row.append(some + (least - (dice.randrange(6) == 0),))
        return tuple(row)

    def test_one_item_otherwise(self):
        dice = random.Random(28)
        told = [0, 0]
        for house in HOUSES:
            for start in [dice.choice(starts_of(house)), starts_of(house)[-1]]:
                for log in some_logs(dice, house, start, 1, 3):
                    rules = rules_of(house, start, log)
                    row = self.random_row(dice, rules, 3)
                    self.same(is_claim_row(house, start, log, row), True, house, start, log, row)
                    for other in part_changes(row) + number_changes(row, 7):
                        want = rules.is_row(other)
                        told[want] += 1
                        self.same(is_claim_row(house, start, log, other), want, house, start, log, other)
        self.assertGreater(min(told), 100)

    def test_any_values(self):
        rules = rules_of(HOUSE, EMPTY, LOG)
        for thing in odd_values():
            for value in [thing, (thing,), ((6, 0, 1, 1), thing), ((6, 0, 1, thing),), ((6, thing, 1, 0),),
                          ((thing, 0, 0, 0),), ((6, 0, thing, 0),), [(6, 0, 1, 1), thing]]:
                self.same(is_claim_row(HOUSE, EMPTY, LOG, value), rules.is_row(value), value)


class TestGreatest(Case):

    def check(self, house, start, log):
        rules = rules_of(house, start, log)
        *_, best = rules.rounds()
        knowns = words_through(house, start, log)
        ahead = exact(log)
        for moment in range(2 * len(log) + 1):
            want = tuple(tuple(best[(moment, floor, count)] for count in range(len(rules.orders[moment]) + 1))
                         for floor in range(len(house[1])))
            self.same(greatest_least(house, start, log, moment), want, house, start, log, moment)
            if moment % 2 == 0:
                self.same(want, knowns[moment // 2][1], house, start, log, moment)
        self.assertEqual(exact(log), ahead)

    def test_by_hand(self):
        self.same([greatest_least(HOUSE, EMPTY, LOG, moment) for moment in (0, 1, 2, 5, 6)],
                  [((0,) * 5, (0,) * 5), ((0,) * 4, (0,) * 4), ((0, 1, 1, 1, 1), (0, 1, 1, 1, 1)),
                   ((0, 1, 1, 1), (0, 1, 2, 2)), ((0, 1, 1, 1, 1), (0, 1, 1, 2, 2))])
        self.same(greatest_least((0, (1, 2)), (), (), 0), ((0,), (0,)))
        self.same(greatest_least((1, (1, 2)), (1,), (("strike", 0, 1),), 1), ((0,), (0,)))

    def test_each_moment(self):
        dice = random.Random(29)
        for house in HOUSES + [(0, (1, 1)), (1, (1, 2, 1))]:
            for start in [dice.choice(starts_of(house)), starts_of(house)[-1], states_by_counting(house)[-1]]:
                for long in (3, 6):
                    log, _ = some_log(dice, house, first_states(house, start), long)
                    self.check(house, start, log)

    def test_long_logs(self):
        dice = random.Random(30)
        for house in [(4, (1, 2)), (5, (2, 1)), (3, (1, 1, 1)), (6, (2,))]:
            for start in [dice.choice(states_by_counting(house)), None]:
                self.check(house, start, some_log(dice, house, first_states(house, start), 20)[0])

    def test_a_large_house(self):
        house = (12, (2, 3))
        self.check(house, None, random_run(random.Random(31), house, (0, 0, 1, 1, 1) + (2,) * 7, 6)[1])


if __name__ == "__main__":
    unittest.main()
