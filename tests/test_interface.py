"""The names and arguments of the interface, and that what is handed in and told is the asker's own, over the whole."""

import copy
import importlib
import inspect
import unittest

from turncoins.codes import Code
from turncoins.desk import Desk
from turncoins.errors import CoinError

FUNCTIONS = (
    ("lists", "least(numbers)"), ("lists", "first_list(coins)"), ("gates", "turned(numbers, gate)"),
    ("gates", "turned_by(numbers, gates)"), ("rows", "laid(numbers, row)"), ("rows", "product(one, other)"),
    ("rows", "agree(one, other)"), ("rows", "is_even(row)"), ("rows", "letters(row)"), ("rows", "moved(row, gate)"),
    ("looks", "chance(numbers, row)"), ("looks", "looked(numbers, row, wish=0)"), ("spans", "made_of(rows, row)"),
    ("spans", "least_rows(rows)"), ("shorts", "first_rows(coins)"), ("shorts", "checked(rows)"),
    ("shorts", "rows_turned(rows, gate)"), ("shorts", "rows_looked(rows, row, wish=0)"), ("bridges", "list_of(rows)"),
    ("bridges", "rows_of(numbers)"), ("bridges", "overlap(one, other)"), ("bridges", "rows_overlap(one, other)"),
    ("ties", "ties(rows, part)"), ("images", "images(coins, gates)"), ("images", "start_list(start)"),
    ("images", "parting(coins, one, other)"), ("making", "gates_of(table)"), ("codes", "Code(coins, checks)"),
    ("texts", "show_gates(gates)"), ("texts", "show_row(row, coins)"), ("texts", "read_gates(text)"),
    ("texts", "read_row(text)"), ("desk", "Desk()"))
METHODS = ((Code, "marks(self, turn)"), (Code, "is_harmless(self, turn)"), (Code, "least_unseen(self)"),
           (Code, "table(self, many)"), (Desk, "say(self, line)"))

BELL = [(1, 3, 0), (1, 0, 3)]
GATES = [("mix", 0), ("follow", 0, 1)]
TABLE = [(1, 3, 0), (1, 2, 0), (1, 0, 1), (1, 0, 3)]
# Arguments that are answered, and arguments that are refused, by the function's name.
ASKED = {
    "least": [([2, 4],), ([1, 0],), ([0, 0],), ([],)], "first_list": [(2,), (9,)],
    "turned": [([1, 0], ("mix", 0)), ([1, 0], ("mix", 1))],
    "turned_by": [([1, 0, 0, 0], GATES), ([1, 0, 0, 2], []), ([1, 0], GATES), ([0, 0], GATES)],
    "laid": [([1, 2, 3, 4], (1, 1, 2)), ([1, 2], (1, 0, 0))], "product": [((1, 1, 0), (1, 0, 1))],
    "agree": [((1, 1, 0), (1, 0, 1))], "is_even": [((1, 1, 1),)], "letters": [((1, 5, 4),)],
    "moved": [((1, 1, 0), ("flip", 0)), ((1, 1, 0), ("flip", 6))],
    "chance": [([1, 2], (1, 0, 1)), ([1, 2], (1, 1, 1)), ([0, 0], (1, 0, 1))],
    "looked": [([1, 2], (1, 0, 1), 1), ([1, 0], (1, 0, 1)), ([1, 2], (1, 1, 1)), ([1], (1, 0, 1))],
    "made_of": [(BELL, (-1, 3, 3)), (BELL, (1, 0, 0)), (BELL, (1, 1, 0))],
    "least_rows": [(BELL,), ([],), ([(1, 1, 1)],), (BELL + BELL,)], "first_rows": [(3,), (0,)],
    "checked": [(BELL,), (BELL[::-1],), ([],), (BELL[:1] * 2,)],
    "rows_turned": [(BELL, ("sign", 0)), (BELL, ("sign", 2)), ([(1, 0, 4)], ("sign", 0))],
    "rows_looked": [(BELL, (1, 0, 1), 1), (BELL, (1, 3, 3)), (BELL, (1, 1, 1)), ([], (1, 0, 0))],
    "list_of": [(BELL,), ([],)], "rows_of": [([1, 0, 0, 1],), ([1, 2],), ([0, 0],)],
    "overlap": [([1, 2], [2, 1]), ([0, 0], [1, 0])], "rows_overlap": [(BELL, BELL), (BELL, [])],
    "ties": [(BELL, 1), ([], 0)], "images": [(2, GATES), (2, []), (1, GATES)], "start_list": [("+0",)],
    "parting": [(2, GATES, []), (2, GATES, GATES), (1, GATES, [])], "gates_of": [(TABLE,), (TABLE[:3],)],
    "Code": [(2, BELL), (2, []), (1, BELL), (2, BELL[:1] * 2)], "show_gates": [(GATES,), ([],)],
    "show_row": [((1, 1, 2), 2)], "read_gates": [("mix 0; follow 0 1",), ("",), (" ",)],
    "read_row": [("+x.",), ("x",)], "Desk": [()]}


def named(module, form):
    return getattr(importlib.import_module(f"turncoins.{module}"), form.split("(")[0])


def answered(ask):
    """What is told, or the refusal's class and fields."""
    try:
        told = ask()
    except CoinError as refusal:
        return (refusal.__class__, vars(refusal))
    return told_by_code(told) if isinstance(told, Code) else told


def told_by_code(code):
    return [code.least_unseen()] + [answered(lambda: code.table(many)) for many in (0, 1, 2)]


def wrecked(told):
    """All lists and dicts within are emptied or filled with something else."""
    if isinstance(told, (list, tuple)):
        for part in told:
            wrecked(part)
    if isinstance(told, dict):
        for part in told.values():
            wrecked(part)
        told.clear()
    if isinstance(told, list):
        told[:] = ["other"]


class Interface(unittest.TestCase):
    def check(self, thing, form):
        name, rest = form.split("(", 1)
        self.assertEqual(str(inspect.signature(thing)), "(" + rest)
        self.assertEqual(thing.__name__, name)

    def test_functions_and_classes(self):
        for module, form in FUNCTIONS:
            with self.subTest(form):
                self.check(named(module, form), form)

    def test_methods(self):
        for owner, form in METHODS:
            with self.subTest(form):
                self.check(getattr(owner, form.split("(")[0]), form)

    def test_arguments_by_their_names(self):
        code = Code(coins=2, checks=BELL)
        self.assertEqual((code.marks(turn=(1, 1, 0)), code.is_harmless(turn=(1, 3, 3))), (2, True))
        self.assertEqual(code.table(many=0), {0: (1, 0, 0)})
        self.assertEqual(Desk().say(line="part 1  / "), "none")


class AskersOwn(unittest.TestCase):
    def test_each_function_is_asked(self):
        self.assertEqual(sorted(ASKED), sorted(form.split("(")[0] for module, form in FUNCTIONS))

    def test_what_is_handed_in_stays(self):
        for module, form in FUNCTIONS:
            for handed in ASKED[form.split("(")[0]]:
                with self.subTest(form, handed=handed):
                    given = copy.deepcopy(handed)
                    answered(lambda: named(module, form)(*given))
                    self.assertEqual(given, handed)

    def test_a_change_of_what_was_told_or_handed_in_changes_nothing_else(self):
        for module, form in FUNCTIONS:
            for handed in ASKED[form.split("(")[0]]:
                if form == "Desk()":
                    continue
                with self.subTest(form, handed=handed):
                    given = copy.deepcopy(handed)
                    told = [answered(lambda: named(module, form)(*given)) for times in range(2)]
                    wanted = copy.deepcopy(told[1])
                    self.assertEqual(told[0], wanted)
                    wrecked(told[0])
                    self.assertEqual((given, told[1]), (handed, wanted))
                    self.assertEqual(answered(lambda: named(module, form)(*given)), wanted)
                    wrecked(given)
                    self.assertEqual(told[1], wanted)
                    self.assertEqual(answered(lambda: named(module, form)(*copy.deepcopy(handed))), wanted)


if __name__ == "__main__":
    unittest.main()
