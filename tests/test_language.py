"""Rules of LANGUAGE.md that can be read off each file of the package alone."""

import ast
import builtins
import os
import re
import unittest

PACKAGE = os.path.join(os.path.dirname(os.path.dirname(os.path.abspath(__file__))), "elderruns")
LIBRARY = {
    "heapq": ["heappush", "heappop", "heapify", "heapreplace", "heappushpop"],
    "math": ["gcd", "lcm", "isqrt", "comb", "perm", "factorial"],
    "itertools": ["chain", "accumulate", "pairwise", "islice", "zip_longest"],
    "collections": ["defaultdict", "deque"],
}
USED_BUILTINS = """len range enumerate zip min max sum abs sorted reversed int str bool list tuple dict set isinstance ord
    repr any all divmod pow iter next map type super property ValueError TypeError KeyError IndexError LookupError
    ZeroDivisionError NotImplementedError NotImplemented StopIteration""".split()
UNDERSCORES = """__init__ __eq__ __repr__ __str__ __len__ __enter__ __exit__ __call__ __iter__ __lt__ __le__ __gt__ __ge__
    __ne__ __add__ __sub__ __mul__ __floordiv__ __mod__ __pow__ __and__ __or__ __xor__ __lshift__ __rshift__ __radd__
    __rsub__ __rmul__ __rfloordiv__ __rmod__ __rand__ __ror__ __rxor__ __rlshift__ __rrshift__ __neg__ __pos__
    __invert__ __abs__ __bool__ __contains__ __getitem__ __setitem__""".split()
# Generators are not used, since values and parts are compared; nor are the products of the library, since a part has
# a length and an __iter__.
BARRED_NODES = (ast.AsyncFunctionDef, ast.AsyncFor, ast.AsyncWith, ast.Await, ast.MatMult, ast.Div, ast.Import,
                ast.GeneratorExp, ast.Yield, ast.YieldFrom)
BARRED_NAMES = """register mro elements open input law version_info with_traceback add_note attrgetter breakpoint builtins
    compile copyright credits delattr dir eval exec exit gc globals help id importlib license locals methodcaller os
    quit vars sys float complex bytearray memoryview object hash callable filter print format""".split()
BARRED_WORDS = """type typing typing_extensions enum Enum IntEnum StrEnum Flag IntFlag Generic Protocol ABC ABCMeta
    namedtuple NamedTuple TypedDict TYPE_CHECKING abstractmethod _wall _WallAttr Meta metaclass dataclass""".split()

CHANGING = "append clear extend insert pop remove reverse setdefault update sort add discard".split()


def files():
    """Return the names of the files of the package with their texts."""
    found = {}
    for name in sorted(os.listdir(PACKAGE)):
        if name != "__pycache__":
            with open(os.path.join(PACKAGE, name), encoding="utf-8") as file:
                found[name] = file.read()
    return found


def bound_names(tree):
    """Return the names that a file assigns, defines or takes as parameters."""
    names = []
    for node in ast.walk(tree):
        if isinstance(node, (ast.FunctionDef, ast.ClassDef)):
            names.append(node.name)
        elif isinstance(node, ast.arg):
            names.append(node.arg)
        elif isinstance(node, ast.Name) and isinstance(node.ctx, ast.Store):
            names.append(node.id)
    return names


def functions():
    """Return all functions and methods of the package by their names, those of one name in a list."""
    found = {}
    for text in files().values():
        for node in ast.walk(ast.parse(text)):
            if isinstance(node, ast.FunctionDef):
                found.setdefault(node.name, []).append(node)
    return found


def run_by_signs():
    """Return the functions that operators, comparisons and properties run, in the order in which they are found."""
    known = functions()
    rooted = [one for name in UNDERSCORES if name not in ("__init__", "__call__", "__enter__", "__exit__")
              for one in known.get(name, [])]
    rooted += [one for nodes in known.values() for one in nodes
               if [ast.unparse(rule) for rule in one.decorator_list] == ["property"]]
    for function in rooted:
        for node in ast.walk(function):
            if isinstance(node, ast.Call):
                name = node.func.attr if isinstance(node.func, ast.Attribute) else node.func.id
                rooted += [one for one in known.get(name, []) if one not in rooted]
    return rooted


def created(function):
    """Return the names in a function that are assigned nothing but new lists and dicts."""
    found = {}
    for node in ast.walk(function):
        if isinstance(node, ast.Assign) and isinstance(node.targets[0], ast.Name):
            new = isinstance(node.value, (ast.List, ast.Dict, ast.ListComp, ast.DictComp))
            new = new or isinstance(node.value, ast.Call) and ast.unparse(node.value.func) in ("list", "dict", "sorted")
            found[node.targets[0].id] = new and found.get(node.targets[0].id, True)
    return [name for name, new in found.items() if new]


class Language(unittest.TestCase):
    def test_files(self):
        for name in files():
            self.assertRegex(name, r"^(__init__|[a-z][a-z0-9_]*)\.py$")

    def test_sizes(self):
        for name, text in files().items():
            self.assertLessEqual(len(text.splitlines()), 399, name)
            for row in text.splitlines():
                self.assertLessEqual(len(row), 120, row)
                self.assertEqual(row, row.rstrip(), name)
            for node in ast.walk(ast.parse(text)):
                if isinstance(node, ast.FunctionDef):
                    self.assertLessEqual(node.end_lineno - node.lineno + 1, 40, node.name)

    def test_characters(self):
        for name, text in files().items():
            self.assertEqual([one for one in text if one != "\n" and not " " <= one <= "~"], [], name)

    def test_imports(self):
        for name, text in files().items():
            body = [one for one in ast.parse(text).body if not isinstance(one, ast.Expr)]
            behind = False
            for node in body:
                if not isinstance(node, ast.ImportFrom):
                    behind = True
                    continue
                self.assertFalse(behind, f"{name}: imports stand at the top")
                self.assertEqual(node.level, 0)
                names = [one.name for one in node.names]
                self.assertEqual([one.asname for one in node.names], [None] * len(names))
                if node.module in LIBRARY:
                    self.assertLessEqual(set(names), set(LIBRARY[node.module]))
                else:
                    self.defined(node.module, names)

    def defined(self, module, names):
        """Check that each name is defined in the file from which it is imported."""
        folder, file = module.split(".")
        self.assertEqual(folder, "elderruns")
        body = ast.parse(files()[file + ".py"]).body
        own = [one.name for one in body if isinstance(one, (ast.FunctionDef, ast.ClassDef))]
        own += [one.targets[0].id for one in body if isinstance(one, ast.Assign)]
        self.assertLessEqual(set(names), set(own))

    def test_no_import_leads_back(self):
        ahead = {}
        for name, text in files().items():
            ahead[name[:-3]] = [one.module.split(".")[1] for one in ast.parse(text).body
                                if isinstance(one, ast.ImportFrom) and one.module.startswith("elderruns.")]
        done = []
        while len(done) < len(ahead):
            ready = [one for one in ahead if one not in done and all(other in done for other in ahead[one])]
            self.assertTrue(ready, "files import from each other")
            done += ready

    def test_module_level(self):
        for name, text in files().items():
            found = []
            for at, node in enumerate(ast.parse(text).body):
                if at == 0:
                    self.assertIsInstance(node, ast.Expr, f"{name} begins with a docstring")
                    continue
                self.assertIsInstance(node, (ast.ImportFrom, ast.FunctionDef, ast.ClassDef, ast.Assign), name)
                if isinstance(node, ast.ImportFrom):
                    found += [one.name for one in node.names]
                elif isinstance(node, ast.Assign):
                    found.append(node.targets[0].id)
                else:
                    found.append(node.name)
            self.assertEqual(len(found), len(set(found)), name)

    def test_no_local_name_of_a_class_or_an_import(self):
        for name, text in files().items():
            taken, bound = [], bound_names(ast.parse(text))
            for node in ast.parse(text).body:
                if isinstance(node, ast.ImportFrom):
                    taken += [one.name for one in node.names]
                elif isinstance(node, ast.ClassDef):
                    taken.append(node.name)
                    bound.remove(node.name)
            self.assertEqual([one for one in bound if one in taken], [], name)

    def test_nodes(self):
        for name, text in files().items():
            for node in ast.walk(ast.parse(text)):
                self.assertNotIsInstance(node, BARRED_NODES, f"{name}:{getattr(node, 'lineno', 0)}")
                if isinstance(node, ast.Constant):
                    self.assertNotIsInstance(node.value, (float, complex))
                if isinstance(node, ast.FunctionDef):
                    self.assertIn([ast.unparse(one) for one in node.decorator_list],
                                  [[], ["property"], ["staticmethod"], ["classmethod"]])
                if isinstance(node, ast.ClassDef):
                    self.assertEqual((node.decorator_list, node.keywords), ([], []))

    def test_names(self):
        for name, text in files().items():
            for one in bound_names(ast.parse(text)):
                if one.startswith("__"):
                    self.assertIn(one, UNDERSCORES, name)
                elif one != "_":
                    self.assertNotIn(one, dir(builtins), name)
                    self.assertNotIn(one, BARRED_NAMES, name)

    def test_builtins(self):
        for name, text in files().items():
            for node in ast.walk(ast.parse(text)):
                if isinstance(node, ast.Name) and isinstance(node.ctx, ast.Load) and hasattr(builtins, node.id):
                    self.assertIn(node.id, USED_BUILTINS, f"{name}:{node.lineno}")

    def test_calls(self):
        for name, text in files().items():
            for node in ast.walk(ast.parse(text)):
                if isinstance(node, ast.Call) and isinstance(node.func, ast.Attribute):
                    self.assertNotEqual(node.func.attr, "sort", f"{name}:{node.lineno}")
                if isinstance(node, ast.Call) and isinstance(node.func, ast.Name) and node.func.id == "reversed":
                    self.assertIsInstance(node.args[0], (ast.Call, ast.List, ast.Tuple), f"{name}:{node.lineno}")

    def test_local_sets_are_not_stored(self):
        for name, text in files().items():
            for node in ast.walk(ast.parse(text)):
                if isinstance(node, (ast.Assign, ast.Return)):
                    self.assertNotIsInstance(node.value, (ast.Set, ast.SetComp), f"{name}:{node.lineno}")

    def test_strings(self):
        for name, text in files().items():
            for node in ast.walk(ast.parse(text)):
                if isinstance(node, ast.Constant) and isinstance(node.value, str):
                    self.assertNotIn("%", node.value, f"{name}:{node.lineno}")
            for word in re.findall(r"\w+", text):
                self.assertNotIn(word, BARRED_WORDS, name)

    def test_what_signs_and_properties_run_changes_nothing(self):
        found = run_by_signs()
        self.assertIn("place_of", [one.name for one in found])
        for function in found:
            own = created(function)
            for node in ast.walk(function):
                place = f"{function.name}: {ast.unparse(node)}" if isinstance(node, ast.expr) else function.name
                self.assertNotIsInstance(node, (ast.Delete, ast.Nonlocal, ast.Global), place)
                if isinstance(node, ast.Attribute):
                    self.assertIsInstance(node.ctx, ast.Load, place)
                if isinstance(node, ast.Subscript) and not isinstance(node.ctx, ast.Load):
                    self.assertIn(ast.unparse(node.value), own, place)
                if isinstance(node, ast.Call) and isinstance(node.func, ast.Name):
                    self.assertNotIn(node.func.id, bound_names(function)[1:], place)
                if isinstance(node, ast.Call) and isinstance(node.func, ast.Attribute) and node.func.attr in CHANGING:
                    self.assertIn(ast.unparse(node.func.value), own, place)

    def test_a_class_with_items_is_not_iterated_over_by_chance(self):
        for name, text in files().items():
            for node in ast.walk(ast.parse(text)):
                if isinstance(node, ast.ClassDef):
                    own = [one.name for one in node.body if isinstance(one, ast.FunctionDef)]
                    self.assertEqual(len(own), len(set(own)), node.name)
                    if "__getitem__" in own:
                        self.assertIn("__iter__", own, node.name)


if __name__ == "__main__":
    unittest.main()
