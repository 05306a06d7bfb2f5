"""Points [3] and [4], function by function: nothing changes, all is new, the same again, and answers at the bounds."""

import importlib
import random
import unittest

from floorkeepers.desk import Desk
from floorkeepers.errors import FloorError
from floorkeepers.leading import first_knowledge, knowledge_behind
from floorkeepers.live import Live
from floorkeepers.runs import last_use_run, log_of
from floorkeepers.showing import showing
from floorkeepers.texts import show_book
from tests.helper import BIG, Case, big_starts, exact, random_run, some_row
from tests.test_interface import FUNCTIONS, named

SMALL_LOG = (("ask", 0, 2), ("ask", 1, 2), ("ask", 2, 2), ("strike", 0, 1))


def told(house, start, state, log, asks):
    """Arguments by the names of parameters; state is one of the start, log one that can be from it, row only asks."""
    known = knowledge_behind(house, start, log)
    floors = len(house[1])
    front = showing(house, start, log)
    return {
        "house": house, "start": start, "log": log, "knowledge": known, "one": known,
        "other": ((known[0][1:] + known[0][:1]), known[1]), "known": 1, "row": asks, "thing": min(1, house[0] - 1),
        "floor": 0, "floors": (floors,) * len(asks), "number": 1, "index": 0, "count": 1, "many": house[0],
        "rooms": house[1], "sizes": tuple(word[-1] for word in known[1]), "rows": tuple(word[:-1] for word in known[1]),
        "state": state, "run": front[1], "move": (front[1] + (("strike", 0, ()),))[0], "lot": (0, 1),
        "entry": ("strike", 0, state[0]), "wanted": {1: floors, 0: state[0]}, "worths": tuple(range(house[0])),
        "holed": log[:-2] + tuple(entry[:2] + (None,) for entry in log[-2:]), "moment": 2 * len(log),
        "ahead": None, "claim": (2 * len(log), 0, 1, 1), "text": show_book(house, start, log),
    }


def calls(given):
    """(name, function, arguments) of all functions of the interface, some with several arguments."""
    found = []
    house, start, state, log = [given[name] for name in ("house", "start", "state", "log")]
    for file, signatures in FUNCTIONS.items():
        for name, parameters in named(signatures) if file != "errors" else []:
            call = getattr(importlib.import_module("floorkeepers." + file), name)
            if isinstance(call, type):
                continue
            mine = dict(given)
            if name in ("all_houses", "houses_for"):
                mine["floors"] = len(house[1])
            if name in ("done", "entry_of", "can_do", "ran", "log_of", "is_known_run"):
                mine["run"] = last_use_run(house, state, given["row"])
                mine["move"] = mine["run"][0]
            if name in ("led", "led_by", "known_led", "ahead"):
                mine["knowledge"] = first_knowledge(house, state)
            if name in ("fits", "index_of", "showing_to"):
                mine["state"] = showing_end(house, start, log)
            if name == "ahead":
                mine["state"] = (len(house[1]),) + state[1:]
            if name == "joint":
                mine["other"] = mine["one"]
            if name == "pair_floors":
                mine["one"], mine["other"] = 0, 1
            if name == "read_run":
                mine["text"] = "ask 0 down 1 1\nstrike 1"
            if name in ("reason_against", "follows", "is_claim_row", "greatest_least", "reason_within", "reason_not",
                        "is_reason_against"):
                mine["log"], mine["moment"], mine["claim"] = log[:20], 2 * len(log[:20]), (2 * len(log[:20]), 0, 1, 1)
            if name == "wrong_lots":
                mine["log"] = log[:10]
            found.append((name, call, [mine[parameter] for parameter in parameters]))
    return found


def showing_end(house, start, log):
    """A state behind a log."""
    state, run = showing(house, start, log)
    for word, x, downs in run:
        places = list(state)
        places[x] = 0 if word == "ask" else len(house[1])
        for floor, down in enumerate(downs):
            places[down] = floor + 1
        state = tuple(places)
    return state


def holders(value):
    """All lists and dicts in a value, at any depth."""
    found = [value] if isinstance(value, (list, dict)) else []
    if isinstance(value, dict):
        value = list(value) + list(value.values())
    for part in value if isinstance(value, (list, tuple)) else []:
        found += holders(part)
    return found


def copied(value):
    """An equal value, of other lists and dicts."""
    if isinstance(value, list):
        return [copied(part) for part in value]
    if isinstance(value, dict):
        return {key: copied(value[key]) for key in value}
    return tuple(copied(part) for part in value) if isinstance(value, tuple) else value


def result_of(call, given):
    """What a call returns, or the error that it raises, as a tuple."""
    try:
        return ("got", call(*given))
    except FloorError as error:
        return ("raised", error.__class__.__name__, list(vars(error).items()))


class TestEveryFunction(Case):

    def check(self, given, may_raise):
        raised = []
        for name, call, arguments in calls(given):
            ahead = exact(arguments)
            others = copied(arguments)
            first = result_of(call, arguments)
            self.assertEqual(exact(arguments), ahead, name)
            kept = exact(first)
            held = holders(first[1]) if first[0] == "got" else []
            # No two of these are one, and none is what was passed in.
            ids = [id(some) for some in held + holders(arguments)]
            self.assertEqual(len(set(ids)), len(ids), name)
            for some in held:
                some.clear()
            self.assertEqual(exact(result_of(call, arguments)), kept, name)
            self.assertEqual(exact(result_of(call, others)), kept, name)
            self.assertEqual(exact(arguments), ahead, name)
            if first[0] == "raised":
                raised.append(name)
        self.assertTrue(set(raised) <= set(may_raise), raised)

    def test_small_house(self):
        house, empty = (4, (1, 1)), (2, 2, 2, 2)
        self.check(told(house, empty, empty, SMALL_LOG, (0, 1, 2)), [])
        self.check(told(house, None, (2, 2, 0, 1), SMALL_LOG, (0, 1, 2)), [])

    def test_at_the_bounds(self):
        # Sixteen things, four floors, twelve rooms, sixty entries or asks.
        dice = random.Random(7)
        raising = ["all_states", "states_of", "showings_many", "patterns_of", "wrong_lots", "fewest_wrong", "back_state",
                   "behind_bounds", "pattern_with", "turn_patterns", "known_behind"]
        for house in BIG[:4]:
            for start, state in big_starts(dice, house):
                log = random_run(dice, house, state, 60)[1]
                self.check(told(house, start, state, log, some_row(dice, house, 60)), raising)

    def test_objects_keep_nothing_of_the_caller(self):
        # What is passed in is tuples alone; what is told in lists is new each time.
        live = Live((4, (1, 1)), (2, 2, 2, 2))
        live.owe(("beyond", 3, 1))
        desk = Desk("things 1\nrooms 1\nstart 0")
        for call in (live.duties, lambda: desk.execute("book"), lambda: desk.execute("order")):
            first = call()
            kept = list(first)
            first.clear()
            self.same(call(), kept)
            self.assertIsNot(call(), call())

    def test_keys_in_any_order(self):
        dice = random.Random(8)
        for house in BIG[:4]:
            start, state = big_starts(dice, house)[0]
            known = knowledge_behind(house, start, log_of(house, state, last_use_run(house, state, (3, 2, 1))))
            for file, name in [("lots", "state_for"), ("counts", "states_with")]:
                call = getattr(importlib.import_module("floorkeepers." + file), name)
                wanted = {x: state[x] for x in (4, 1, 9)}
                self.same(call(house, known, wanted), call(house, known, {x: state[x] for x in (9, 4, 1)}))


if __name__ == "__main__":
    unittest.main()
