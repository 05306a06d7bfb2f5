"""The interface of the document, and the plainest rules of the form of the package's files."""

import ast
import builtins
import importlib
import inspect
import os
import unittest

import floorkeepers

FUNCTIONS = {
    "forms": "is_integer(thing) is_house(thing) is_state(house, thing) is_start(house, thing) is_move(house, thing) "
             "is_run(house, thing) is_entry(house, thing) is_log(house, thing) is_row(house, thing) "
             "is_knowledge(house, thing)",
    "houses": "rooms_within(house) sizes_of(house, state) things_on(house, state, floor) "
              "things_within(house, state, floor) empty_state(house) filled_up(house, state, floor) "
              "all_states(house, sizes)",
    "texts": "show_book(house, start, log) show_run(run)",
    "reader": "read_book(text) read_run(house, text)",
    "moves": "can_do(house, state, move) done(house, state, move) entry_of(house, state, move) "
             "downs_many(house, state, thing) asks_of(house, state, thing)",
    "hall": "Hall(house, state)",
    "runs": "ran(house, state, run) log_of(house, state, run) last_use_run(house, state, row) "
            "worth_run(house, state, row, worths) come_to(house, state, entry)",
    "words": "known_sizes(knowledge) is_nested(knowledge) tightened(rows, sizes)",
    "leading": "first_knowledge(house, start) led(house, knowledge, entry) led_by(house, knowledge, log) "
               "knowledge_behind(house, start, log) can_be(house, start, log) words_through(house, start, log)",
    "fitting": "fits(house, knowledge, state) states_of(house, knowledge) front_state(house, knowledge) "
               "back_state(house, knowledge) reaching_state(house, knowledge, floor, count)",
    "floors": "surely_within(knowledge, thing, floor) may_be_within(knowledge, thing, floor) "
              "floors_of(house, knowledge, thing) sure_things(knowledge, floor) barred_things(knowledge, floor)",
    "lots": "state_for(house, knowledge, wanted) pair_floors(house, knowledge, one, other) "
            "least_within(house, knowledge, lot, floor) most_within(house, knowledge, lot, floor)",
    "ahead": "ahead(house, knowledge, entry, state)",
    "showing": "showing_to(house, start, log, state) showing(house, start, log) showing_with(house, start, log, wanted) "
               "is_showing(house, start, log, thing) showings_many(house, start, log)",
    "claims": "follows(house, start, log, ahead, claim) is_claim_row(house, start, log, thing) "
              "greatest_least(house, start, log, moment)",
    "reasons": "reason_against(house, start, log) reason_within(house, start, log, thing, floor) "
               "reason_not(house, start, log, thing, floor) is_reason_against(house, start, log, thing)",
    "blocks": "blocks_of(knowledge) normal_of(knowledge) alike(one, other) lies_in(house, one, other) "
              "joint(house, one, other)",
    "parting": "can_happen(house, knowledge, log) naming_log(house, state) parting_state(house, one, other) "
               "parting_log(house, one, other)",
    "counts": "states_with(house, knowledge, wanted) index_of(house, knowledge, state) "
              "floor_counts(house, knowledge, thing) lot_counts(house, knowledge, lot, floor) "
              "state_at(house, knowledge, index)",
    "patterns": "as_log(row, floors) least_pattern(house, knowledge, row) greatest_pattern(house, knowledge, row) "
                "is_pattern(house, knowledge, row, thing) patterns_of(house, knowledge, row) "
                "found_behind(floors, floor)",
    "bestworst": "behind_bounds(house, knowledge, row) best_run(house, start, row) worst_run(house, start, row) "
                 "pattern_with(house, knowledge, row, floor, number) turn_patterns(house, knowledge, row)",
    "housesfor": "all_houses(many, floors) houses_for(many, floors, log) first_against(many, rooms, log)",
    "knownkeepers": "known_led(house, knowledge, known, entry) known_behind(house, state, known, log) "
                    "known_can_be(house, state, known, log) is_known_run(house, state, known, run) "
                    "known_most(house, state, log)",
    "unseen": "knowledges_for(house, start, holed) hole_floors(house, start, holed) filling_of(house, start, holed) "
              "floors_behind(house, start, holed, thing) is_filling(house, start, holed, thing)",
    "wrong": "wrong_lots(house, start, log) fewest_wrong(house, start, log) "
             "is_mended(house, start, log, number, thing)",
    "live": "Live(house, start)",
    "desk": "Desk(text)",
    "errors": "Wrong(place) NoText(line) CannotDo(index) CannotBe(index) TooMany(most) NoIndex(index) Broken(duty) "
              "NoDuty(duty)",
}
METHODS = {"hall": ("Hall", "do(move) state() run() log() back() again() twin() __eq__(other)"),
           "live": ("Live", "enter(entry) owe(duty) free(duty) duties() knowledge() log() floors(thing) back() again() "
                            "twin() __eq__(other)"),
           "desk": ("Desk", "execute(line) live()")}
LIBRARY = ("heapq", "math", "itertools", "collections", "__future__")
BUILTINS = ("len range enumerate zip min max sum abs sorted reversed int str bool bytes list tuple dict set frozenset "
            "isinstance ord repr any all divmod pow getattr hasattr setattr iter next map property staticmethod "
            "classmethod super Exception ValueError TypeError KeyError IndexError LookupError ZeroDivisionError "
            "ArithmeticError OverflowError RuntimeError NotImplementedError AttributeError StopIteration "
            "NotImplemented object float").split()
LISTS_ONLY = ("any", "all", "min", "max", "sum", "sorted")
FOLDER = os.path.dirname(floorkeepers.__file__)


def named(told):
    """The (name, parameters) of each signature in a text."""
    return [(part.split("(")[0], [name for name in part.split("(")[1].split(", ") if name])
            for part in told.replace(") ", ")").split(")") if part]


def files():
    """The name and the text of each file of the package."""
    found = []
    for name in sorted(os.listdir(FOLDER)):
        if name.endswith(".py"):
            with open(os.path.join(FOLDER, name), encoding="utf-8") as held:
                found.append((name, held.read()))
    return found


class TestInterface(unittest.TestCase):

    def test_functions_and_classes(self):
        for file, told in FUNCTIONS.items():
            module = importlib.import_module("floorkeepers." + file)
            for name, parameters in named(told):
                made = getattr(module, name)
                self.assertEqual(made.__module__, "floorkeepers." + file, name)
                self.assertEqual(list(inspect.signature(made).parameters), parameters, name)

    def test_methods(self):
        for file, (kind, told) in METHODS.items():
            made = getattr(importlib.import_module("floorkeepers." + file), kind)
            for name, parameters in named(told):
                self.assertIn(name, vars(made))
                self.assertEqual(list(inspect.signature(vars(made)[name]).parameters)[1:], parameters, name)


class TestForm(unittest.TestCase):

    def test_only_python_files(self):
        for name in os.listdir(FOLDER):
            if name != "__pycache__":
                self.assertRegex(name, "^[a-z0-9_]+[.]py$")
        self.assertEqual(dict(files())["__init__.py"], "")

    def test_sizes_and_characters(self):
        for name, text in files():
            self.assertLess(len(text.split("\n")), 401, name)
            for line in text.split("\n"):
                self.assertLessEqual(len(line), 120, name)
                self.assertTrue(all(" " <= sign <= "~" for sign in line), (name, line))
            for node in ast.walk(ast.parse(text)):
                if isinstance(node, ast.FunctionDef):
                    self.assertLessEqual(node.end_lineno - node.lineno + 1, 40, (name, node.name))

    def test_imports(self):
        for name, text in files():
            for node in ast.walk(ast.parse(text)):
                self.assertNotIsInstance(node, ast.Import, name)
                if isinstance(node, ast.ImportFrom):
                    self.assertEqual(node.level, 0, name)
                    self.assertTrue(node.module in LIBRARY or node.module.startswith("floorkeepers."), name)

    def test_statements(self):
        barred = (ast.Global, ast.AsyncFunctionDef, ast.Await, ast.Div)
        for name, text in files():
            for node in ast.walk(ast.parse(text)):
                self.assertNotIsInstance(node, barred, name)
                self.assertFalse(isinstance(node, ast.Constant) and isinstance(node.value, (float, complex)), name)
                # As a class has an __eq__, these are passed lists.
                if isinstance(node, ast.Call) and isinstance(node.func, ast.Name) and node.func.id in LISTS_ONLY:
                    self.assertFalse([part for part in node.args if isinstance(part, ast.GeneratorExp)], name)

    def test_builtins(self):
        for name, text in files():
            for node in ast.walk(ast.parse(text)):
                if isinstance(node, ast.Name) and hasattr(builtins, node.id):
                    self.assertIn(node.id, BUILTINS, name)
                    self.assertIsInstance(node.ctx, ast.Load, (name, node.id))


if __name__ == "__main__":
    unittest.main()
