"""The interface: each name is defined in the file under which the document lists it, as it is written there."""

import ast
import os
import unittest

PACKAGE = os.path.join(os.path.dirname(os.path.dirname(os.path.abspath(__file__))), "elderruns")

FUNCTIONS = {
    "values.py": {"named": ["name"], "now": ["name"], "passed": [], "number": ["n"]},
    "parts.py": {"memo": ["name", "value", "names"], "handler": ["name", "number", "puts", "names"]},
    "plays.py": {"play": ["part", "row"], "play_fresh": ["part", "row"], "makings": ["part", "row"],
                 "wrong_row": ["part", "together=False"], "all_steps": ["part", "together=False"],
                 "judge": ["part", "table", "together=False"], "first_unlike": ["one", "other"], "machine": ["part"]},
    "lists.py": {"turning": ["part", "name", "together=False"],
                 "is_right_list": ["part", "name", "names", "together=False"],
                 "least_lists": ["part", "name", "together=False"],
                 "missing_row": ["part", "name", "names", "together=False"],
                 "tightened": ["part", "together=False"], "idle": ["part", "together=False"]},
    "late.py": {"late_rows": ["part", "name"], "can_wait": ["part", "name"], "cut_rows": ["part"]},
    "texts.py": {"show_value": ["value"], "show_part": ["part"]},
    "readings.py": {"read_value": ["text"], "read_part": ["text"]},
}
# Each class with its methods, of which those with None are called by their signs, and its properties.
CLASSES = {
    "errors.py": {name: ({}, []) for name in (
        "RunError", "InvalidName", "InvalidSize", "DoubleName", "UnknownName", "InvalidDivisor", "NotHere",
        "UnknownHandler", "InvalidArgument", "EmptyBatch", "UnlikeHandlers", "NotRight", "NothingToUndo", "Unreadable")},
    "values.py": {"Value": (
        {"rest": ["n"], "same": ["other"], "less": ["other"], "at": ["held", "present", "argument"],
         "__add__": None, "__radd__": None, "__sub__": None, "__rsub__": None, "__mul__": None, "__rmul__": None,
         "__floordiv__": None, "__and__": None, "__rand__": None, "__or__": None, "__ror__": None,
         "__invert__": None, "__eq__": None},
        ["names", "nows", "has_passed"])},
    "parts.py": {
        "Slot": ({"__eq__": None}, ["name"]),
        "Part": ({"__init__": ["cells", "slots", "shown"], "having": ["name", "names"], "full": [],
                  "__getitem__": None, "__len__": None, "__eq__": None},
                 ["cells", "slots", "handlers"])},
    "screens.py": {
        "Kept": ({"__call__": ["argument=0"], "__eq__": None}, ["run"]),
        "Screen": ({"__init__": ["part"], "__call__": ["name", "argument=0"], "batch": ["events"], "undo": [],
                    "__getitem__": None, "__eq__": None},
                   ["cells", "shown", "is_right", "runs"])},
}


def read(name):
    """Return the parsed rows of a file of the package."""
    with open(os.path.join(PACKAGE, name), encoding="utf-8") as file:
        return ast.parse(file.read())


def arguments(function):
    """Return the names of the arguments, with their defaults, and check that all of them are plain."""
    told = function.args
    if told.posonlyargs or told.kwonlyargs or told.vararg or told.kwarg:
        raise AssertionError(function.name)
    defaults = [""] * (len(told.args) - len(told.defaults)) + ["=" + ast.unparse(one) for one in told.defaults]
    return [one.arg + default for one, default in zip(told.args, defaults)]


class Interface(unittest.TestCase):
    def test_functions(self):
        for file, functions in FUNCTIONS.items():
            found = {one.name: one for one in read(file).body if isinstance(one, ast.FunctionDef)}
            for name, awaited in functions.items():
                self.assertEqual(arguments(found[name]), awaited, name)
                self.assertEqual(found[name].decorator_list, [])

    def test_classes(self):
        for file, classes in CLASSES.items():
            found = {one.name: one for one in read(file).body if isinstance(one, ast.ClassDef)}
            for name, (methods, properties) in classes.items():
                body = {one.name: one for one in found[name].body if isinstance(one, ast.FunctionDef)}
                for method, awaited in methods.items():
                    told = arguments(body[method])
                    self.assertEqual(body[method].decorator_list, [])
                    if awaited is not None:
                        self.assertEqual(told, ["self"] + awaited, method)
                for one in properties:
                    self.assertEqual([rule.id for rule in body[one].decorator_list], ["property"])
                    self.assertEqual(arguments(body[one]), ["self"])


if __name__ == "__main__":
    unittest.main()
