"""Promises 4 and 9: parts, their errors in order, what they tell, and when they are equal."""

import unittest

from elderruns.errors import DoubleName, InvalidName, InvalidSize, NotHere, UnknownName
from elderruns.parts import Part, handler, memo
from elderruns.values import named, now, number, passed

A, B, C, M, W, X = named("a"), named("b"), named("c"), named("m"), named("w"), named("x")
CELLS = [("b", 3), ("a", 2), ("c", 4)]


def sample():
    """Return a part in which cells and slots are not in the order of the alphabet."""
    return Part(CELLS, [
        memo("w", A + B, ["a", "b"]),
        handler("up", 2, [("a", W + passed()), ("b", now("a"))], ["w"]),
        memo("m", W * 2, ["w", "c", "b"]),
        handler("end", 1, [("c", M)], ["m", "a", "w"]),
    ], [M, C, 7])


class Case(unittest.TestCase):
    def due(self, error, value, cells, slots, shown):
        """Check that a part has this error, however it is constructed."""
        for make in (lambda: Part(cells, slots, shown), lambda: Part(cells=cells, slots=slots, shown=shown)):
            with self.assertRaises(error) as caught:
                make()
            self.assertIs(type(caught.exception), error)
            self.assertEqual(caught.exception.value, value)
            self.assertIs(type(caught.exception.value), type(value))


class CellErrors(Case):
    def test_each_error(self):
        self.due(InvalidName, "A", [("a", 1), ("A", 1)], [], [])
        self.due(InvalidName, "", [("", 1)], [], [])
        self.due(InvalidName, "abcdefghi", [("abcdefghi", 1)], [], [])
        for size in (0, -1, -1000, -10 ** 20):
            self.due(InvalidSize, size, [("a", 1), ("b", size)], [], [])
        self.due(DoubleName, "a", [("a", 1), ("b", 2), ("a", 1)], [], [])
        self.due(DoubleName, "a", [("a", 1), ("a", 2)], [], [])

    def test_the_order_for_one_cell(self):
        self.due(InvalidName, "A", [("A", 0)], [], [])
        self.due(InvalidSize, 0, [("a", 1), ("a", 0)], [], [])

    def test_cell_by_cell(self):
        self.due(InvalidSize, 0, [("a", 0), ("A", 1)], [], [])
        self.due(DoubleName, "a", [("a", 1), ("a", 1), ("A", 1), ("b", 0)], [], [])
        self.due(InvalidName, "A", [("A", 1), ("b", 0)], [], [])
        self.due(DoubleName, "b", [("a", 1), ("b", 1), ("b", 1), ("a", 1)], [], [])

    def test_ahead_of_slots_and_shown_values(self):
        for slots, shown in (([memo("a", X, ["x"])], []), ([], [X]), ([], [passed()])):
            self.due(InvalidSize, 0, [("a", 1), ("b", 0)], slots, shown)


class SlotErrors(Case):
    def test_double_names(self):
        for slot in (memo("a", 0, []), handler("a", 1, [], [])):
            self.due(DoubleName, "a", CELLS, [slot], [])
            self.due(DoubleName, "a", [], [memo("a", 0, []), slot], [])
            self.due(DoubleName, "a", [], [handler("a", 1, [], []), memo("m", 0, []), slot], [])

    def test_names_in_the_value_of_a_memo(self):
        self.due(UnknownName, "x", CELLS, [memo("m", A + X, [])], [])
        self.due(UnknownName, "d", CELLS, [memo("m", X + named("d") * named("e") + A, [])], [])
        self.due(UnknownName, "m", CELLS, [memo("m", M, [])], [])
        self.due(UnknownName, "w", CELLS, [memo("m", W, []), memo("w", 0, [])], [])
        self.due(UnknownName, "up", CELLS, [handler("up", 1, [], []), memo("m", named("up"), [])], [])

    def test_names_in_the_puts_of_a_handler(self):
        self.due(UnknownName, "d", CELLS, [handler("up", 1, [("a", X), ("b", A + named("e")), ("a", named("d"))], [])], [])
        self.due(UnknownName, "m", CELLS, [handler("up", 1, [("a", M)], []), memo("m", 0, [])], [])
        self.due(UnknownName, "up", CELLS, [handler("up", 1, [("a", named("up"))], [])], [])
        self.due(UnknownName, "up", CELLS, [handler("up", 1, [], []), handler("to", 1, [("a", named("up"))], [])], [])

    def test_cells_that_a_handler_touches(self):
        memos = [memo("m", 0, []), memo("d", 0, [])]
        self.due(UnknownName, "x", CELLS, [handler("up", 1, [("a", 1), ("x", 1)], [])], [])
        self.due(UnknownName, "x", CELLS, [handler("up", 1, [("a", now("x"))], [])], [])
        self.due(UnknownName, "m", CELLS, memos + [handler("up", 1, [("m", 1)], [])], [])
        self.due(UnknownName, "m", CELLS, memos + [handler("up", 1, [("a", A), ("a", now("m"))], [])], [])
        self.due(UnknownName, "d", CELLS, memos + [handler("up", 1, [("m", now("d"))], [])], [])
        self.due(UnknownName, "d", CELLS, memos + [handler("up", 1, [("m", 0), ("d", now("x"))], [])], [])
        self.due(UnknownName, "d", CELLS, memos + [handler("up", 1, [("a", now("m")), ("a", now("d"))], [])], [])
        self.due(UnknownName, "up", CELLS, [handler("up", 1, [("up", 1)], [])], [])

    def test_caught_names_are_asked_for_ahead_of_touched_ones(self):
        self.due(UnknownName, "z", CELLS, [handler("up", 1, [("d", now("e")), ("f", named("z"))], [])], [])
        self.due(UnknownName, "d", CELLS, [memo("z", 0, []), handler("up", 1, [("d", now("e")), ("f", named("z"))], [])], [])

    def test_not_here(self):
        for value in (passed(), now("a"), A + passed(), ~now("b"), A.rest(2) * passed(), A.less(now("c"))):
            self.due(NotHere, "m", CELLS, [memo("m", value, ["a"])], [])

    def test_not_here_whatever_the_name_is(self):
        for name in ("x", "m", "a", "w", "up"):
            self.due(NotHere, "m", CELLS, [handler("up", 1, [], []), memo("w", 0, []), memo("m", now(name), [])], [])

    def test_handlers_may_ask_for_both(self):
        part = Part(CELLS, [handler("up", 2, [("a", passed() + now("b"))], [])], [])
        self.assertEqual(part.handlers, [("up", 2)])

    def test_lists(self):
        for make in (lambda names: memo("m", 0, names), lambda names: handler("m", 1, [], names)):
            ahead = [memo("w", 0, []), handler("up", 1, [], [])]
            self.due(UnknownName, "x", CELLS, [make(["a", "x"])], [])
            self.due(UnknownName, "z", CELLS, [make(["z", "x"])], [])
            self.due(UnknownName, "m", CELLS, [make(["m"])], [])
            self.due(UnknownName, "up", CELLS, ahead + [make(["w", "up"])], [])
            self.due(UnknownName, "l", CELLS, [make(["l"]), memo("l", 0, [])], [])
            self.due(UnknownName, "Not", CELLS, [make(["Not"])], [])
            self.due(DoubleName, "a", CELLS, [make(["b", "a", "a", "b"])], [])
            self.due(DoubleName, "b", CELLS, [make(["b", "a", "b", "a"])], [])
            self.due(DoubleName, "w", CELLS, ahead + [make(["w", "w"])], [])
            self.due(UnknownName, "x", CELLS, [make(["a", "a", "x", "z"])], [])

    def test_the_order_for_a_memo(self):
        wrong = X + passed() + now("y")
        names = ["z", "a", "a"]
        self.due(DoubleName, "a", CELLS, [memo("a", wrong, names)], [])
        self.due(UnknownName, "x", CELLS, [memo("m", wrong, names)], [])
        self.due(NotHere, "m", CELLS + [("x", 2)], [memo("m", wrong, names)], [])
        self.due(UnknownName, "z", CELLS, [memo("m", A, names)], [])
        self.due(DoubleName, "a", CELLS, [memo("m", A, names[1:])], [])

    def test_the_order_for_a_handler(self):
        puts = [("d", X + now("y"))]
        names = ["z", "a", "a"]
        self.due(DoubleName, "a", CELLS, [handler("a", 1, puts, names)], [])
        self.due(UnknownName, "x", CELLS, [handler("m", 1, puts, names)], [])
        self.due(UnknownName, "d", CELLS + [("x", 2)], [handler("m", 1, puts, names)], [])
        self.due(UnknownName, "y", CELLS + [("x", 2), ("d", 2)], [handler("m", 1, puts, names)], [])
        self.due(UnknownName, "z", CELLS + [("x", 2), ("d", 2), ("y", 2)], [handler("m", 1, puts, names)], [])
        self.due(DoubleName, "a", CELLS, [handler("m", 1, [("a", A)], names[1:])], [])

    def test_slot_by_slot_and_ahead_of_shown_values(self):
        self.due(DoubleName, "a", CELLS, [memo("m", 0, ["a", "a"]), memo("m", X, [])], [])
        self.due(NotHere, "m", CELLS, [memo("m", passed(), []), memo("m", X, [])], [X])
        self.due(DoubleName, "m", CELLS, [memo("m", 0, []), memo("m", X, [])], [X])
        self.due(UnknownName, "x", CELLS, [memo("m", 0, ["x"]), handler("up", 1, [("d", 1)], [])], [passed()])


class ShownErrors(Case):
    def test_names(self):
        slots = [memo("m", 0, []), handler("up", 1, [], [])]
        self.due(UnknownName, "x", CELLS, slots, [A, M, X])
        self.due(UnknownName, "d", CELLS, slots, [X * named("e") + named("d")])
        self.due(UnknownName, "up", CELLS, slots, [named("up")])

    def test_not_here(self):
        for value in (passed(), now("a"), now("x"), A + passed() * 2, ~now("m")):
            self.due(NotHere, 0, CELLS, [memo("m", 0, [])], [value])
            self.due(NotHere, 2, CELLS, [memo("m", 0, [])], [A, 5, value, passed()])

    def test_the_order(self):
        self.due(UnknownName, "x", CELLS, [], [A, X + passed(), passed()])
        self.due(NotHere, 1, CELLS, [], [A, passed(), X])
        self.due(UnknownName, "x", CELLS, [], [X, named("d")])

    def test_memos_behind_and_ahead_may_be_shown(self):
        part = sample()
        self.assertEqual(Part(part.cells, [memo("w", 0, []), memo("m", 0, [])], [W, M, A, W + M]).slots, ["w", "m"])


class Told(unittest.TestCase):
    def test_cells_slots_and_handlers(self):
        part = sample()
        self.assertEqual(part.cells, [("b", 3), ("a", 2), ("c", 4)])
        self.assertEqual(part.slots, ["w", "up", "m", "end"])
        self.assertEqual(part.handlers, [("up", 2), ("end", 1)])
        self.assertEqual(len(part), 4)

    def test_nothing_at_all(self):
        part = Part([], [], [])
        self.assertEqual((part.cells, part.slots, part.handlers, len(part)), ([], [], [], 0))
        self.assertEqual(part.full(), part)

    def test_lists_in_the_order_of_cells_and_then_slots(self):
        part = sample()
        self.assertEqual([part[name] for name in part.slots], [["b", "a"], ["w"], ["b", "c", "w"], ["a", "w", "m"]])

    def test_every_order_of_a_list(self):
        rows = [["b", "a", "c", "w", "m"], ["m", "w", "c", "a", "b"], ["w", "b", "m", "c", "a"], ["c", "m", "a", "w", "b"]]
        for names in rows:
            part = Part(CELLS, [memo("w", 0, []), memo("m", 0, []), handler("up", 1, [], names)], [])
            self.assertEqual(part["up"], ["b", "a", "c", "w", "m"])

    def test_unknown_slots(self):
        for name in ("x", "a", "b", "", "Up", "upp"):
            with self.assertRaises(UnknownName) as caught:
                sample()[name]
            self.assertEqual(caught.exception.value, name)

    def test_properties_are_only_read(self):
        for name in ("cells", "slots", "handlers"):
            self.assertIsInstance(vars(Part)[name], property)
            with self.assertRaises(AttributeError):
                setattr(sample(), name, [])

    def test_told_lists_that_change_afterwards(self):
        part = sample()
        for told in (part.cells, part.slots, part.handlers, part["w"], part["end"], part.full()["m"]):
            told.append("x")
            told.reverse()
            told.pop(0)
            told.clear()
        self.assertEqual(part, sample())
        self.assertEqual((part.cells, part.slots, part.handlers), (CELLS, ["w", "up", "m", "end"], [("up", 2), ("end", 1)]))
        self.assertEqual(part["end"], ["a", "w", "m"])
        for one, other in ((part.cells, part.cells), (part.slots, part.slots), (part.handlers, part.handlers),
                           (part["w"], part["w"])):
            self.assertIsNot(one, other)

    def test_handed_in_lists_that_change_afterwards(self):
        cells, slots, shown = [("a", 2)], [memo("m", A, ["a"])], [M]
        part = Part(cells, slots, shown)
        self.assertEqual((cells, slots, shown), ([("a", 2)], [memo("m", A, ["a"])], [M]))
        cells.append(("b", 2))
        slots.clear()
        shown[0] = number(1)
        self.assertEqual(part, Part([("a", 2)], [memo("m", A, ["a"])], [M]))
        self.assertEqual((part.cells, part.slots), ([("a", 2)], ["m"]))

    def test_handed_in_lists_stay_as_they_were_behind_an_error(self):
        cells, slots, shown = [("a", 2)], [memo("m", A, ["a"])], [M, 3, X]
        with self.assertRaises(UnknownName):
            Part(cells, slots, shown)
        self.assertEqual((cells, slots, shown), ([("a", 2)], [memo("m", A, ["a"])], [M, 3, X]))
        self.assertIs(type(shown[1]), int)

    def test_not_iterated_over(self):
        with self.assertRaises(TypeError):
            iter(sample())


class Having(unittest.TestCase):
    def test_another_list(self):
        part = sample()
        other = part.having("end", ["c", "m", "b"])
        self.assertEqual(other["end"], ["b", "c", "m"])
        self.assertEqual([other[name] for name in ("w", "up", "m")], [part[name] for name in ("w", "up", "m")])
        self.assertEqual((other.cells, other.slots, other.handlers), (part.cells, part.slots, part.handlers))
        self.assertEqual(other, Part(CELLS, [
            memo("w", A + B, ["a", "b"]), handler("up", 2, [("a", W + passed()), ("b", now("a"))], ["w"]),
            memo("m", W * 2, ["w", "c", "b"]), handler("end", 1, [("c", M)], ["c", "m", "b"])], [M, C, 7]))
        self.assertEqual(part.having("w", [])["w"], [])
        self.assertEqual(part.having(name="w", names=["c"])["w"], ["c"])

    def test_the_part_and_the_list_stay_as_they_were(self):
        part, names = sample(), ["m", "b"]
        other = part.having("end", names)
        self.assertEqual(part, sample())
        self.assertEqual(names, ["m", "b"])
        names.append("c")
        self.assertEqual(other["end"], ["b", "m"])
        self.assertNotEqual(other, part)

    def test_the_same_list(self):
        part = sample()
        self.assertEqual(part.having("end", ["w", "m", "a"]), part)
        self.assertEqual(part.having("end", part["end"]), part)
        self.assertEqual(part.having("end", []).having("end", part["end"]), part)

    def error(self, error, value, name, names):
        part = sample()
        for make in (lambda: part.having(name, names), lambda: part.having(name=name, names=names)):
            with self.assertRaises(error) as caught:
                make()
            self.assertIs(type(caught.exception), error)
            self.assertEqual(caught.exception.value, value)
            self.assertEqual(part, sample())

    def test_errors(self):
        self.error(UnknownName, "x", "x", [])
        self.error(UnknownName, "a", "a", ["a"])
        self.error(UnknownName, "", "", ["y", "y"])
        self.error(UnknownName, "x", "up", ["a", "a", "x", "y"])
        self.error(UnknownName, "m", "up", ["w", "m"])
        self.error(UnknownName, "up", "up", ["up"])
        self.error(UnknownName, "up", "end", ["up"])
        self.error(UnknownName, "w", "w", ["a", "w"])
        self.error(DoubleName, "w", "end", ["m", "w", "w", "m"])
        self.error(DoubleName, "b", "w", ["a", "b", "c", "b", "a"])


class Full(unittest.TestCase):
    def test_all_cells_and_memos_ahead(self):
        part = sample().full()
        self.assertEqual([part[name] for name in part.slots],
                         [["b", "a", "c"], ["b", "a", "c", "w"], ["b", "a", "c", "w"], ["b", "a", "c", "w", "m"]])
        self.assertEqual((part.cells, part.slots, part.handlers), (CELLS, ["w", "up", "m", "end"], [("up", 2), ("end", 1)]))

    def test_only_the_lists_are_unlike(self):
        part, other = sample(), sample().full()
        self.assertEqual(part, sample())
        self.assertNotEqual(part, other)
        for name in part.slots:
            other = other.having(name, part[name])
        self.assertEqual(other, part)
        self.assertEqual(part.full().full(), part.full())


class Equality(unittest.TestCase):
    def all_unlike(self):
        """Return parts that are all unlike each other, most of them in one thing."""
        cells = [("a", 2), ("b", 3)]
        m, w, up = memo("m", A, ["a", "b"]), memo("w", B, ["b"]), handler("up", 1, [("a", A + 1)], ["a"])
        more = handler("more", 1, [("b", 0)], [])
        return [
            Part(cells, [m, w, up], [A, M]), Part(cells, [m, w, up], [M, A]), Part(cells, [m, w, up], [A]),
            Part(cells, [m, w, up], []), Part(cells, [m, w, up], [A, M, M]), Part(cells, [m, w, up], [A, W]),
            Part(cells, [m, w, up], [A, 1]), Part(cells, [w, m, up], [A, M]), Part(cells, [m, up, w], [A, M]),
            Part(cells, [m, w], [A, M]), Part(cells, [m, up], [A, M]), Part(cells, [m, w, up, more], [A, M]),
            Part(cells, [more, m, w, up], [A, M]),
            Part([("a", 2), ("b", 4)], [m, w, up], [A, M]), Part([("b", 3), ("a", 2)], [m, w, up], [A, M]),
            Part(cells + [("c", 1)], [m, w, up], [A, M]),
            Part(cells, [memo("m", A, ["a"]), w, up], [A, M]), Part(cells, [memo("m", A, ["b"]), w, up], [A, M]),
            Part(cells, [memo("m", A, []), w, up], [A, M]), Part(cells, [memo("m", B, ["a", "b"]), w, up], [A, M]),
            Part(cells, [m, memo("w", B, ["a"]), up], [A, M]), Part(cells, [m, memo("v", B, ["b"]), up], [A, M]),
            Part(cells, [m, w, handler("up", 2, [("a", A + 1)], ["a"])], [A, M]),
            Part(cells, [m, w, handler("up", 1, [("a", A + 2)], ["a"])], [A, M]),
            Part(cells, [m, w, handler("up", 1, [("b", A + 1)], ["a"])], [A, M]),
            Part(cells, [m, w, handler("up", 1, [("a", A + 1)], ["a", "m"])], [A, M]),
            Part(cells, [m, w, handler("ups", 1, [("a", A + 1)], ["a"])], [A, M]),
            Part([], [], []), Part([], [], [0]), Part([("a", 1)], [], []),
        ]

    def test_built_alike(self):
        for one, other in zip(self.all_unlike(), self.all_unlike()):
            self.assertTrue(one == other)
            self.assertFalse(one != other)

    def test_built_unlike(self):
        parts = self.all_unlike()
        for at, one in enumerate(parts):
            for place, other in enumerate(parts):
                self.assertIs(one == other, at == place, (at, place))
                self.assertIs(one != other, at != place, (at, place))

    def test_lists_in_another_order(self):
        rows = [["a", "b", "c", "m"], ["m", "c", "b", "a"], ["c", "a", "m", "b"], ["b", "m", "a", "c"]]
        parts = [Part(CELLS, [memo("m", A, []), handler("up", 1, [], names)], [M]) for names in rows]
        for part in parts:
            self.assertEqual(part, parts[0])
        self.assertNotEqual(parts[0], parts[0].having("up", ["a", "b", "c"]))

    def test_an_integer_is_shown_as_a_number(self):
        self.assertEqual(Part([], [], [7]), Part([], [], [number(7)]))
        self.assertNotEqual(Part([], [], [7]), Part([], [], [number(8)]))

    def test_not_equal_to_anything_else(self):
        for part in (sample(), Part([], [], [])):
            for other in (None, 0, 4, [], (), {}, "", part.slots, part.cells, A, memo("m", 0, []), object(),
                          (part.cells, part.slots)):
                self.assertIs(part == other, False)
                self.assertIs(other == part, False)
                self.assertIs(part != other, True)


class Bounds(unittest.TestCase):
    def test_sizes_and_numbers_to_999(self):
        for many in (1, 7, 100, 999, 10 ** 6):
            part = Part([("a", many), ("b", 999)], [handler("up", many, [("a", passed())], ["a", "b"])], [A, B])
            self.assertEqual((part.cells, part.handlers), ([("a", many), ("b", 999)], [("up", many)]))
            self.assertEqual(part.full(), part)

    def test_many_cells_slots_puts_and_shown_values(self):
        letters = "abcdefghijklmnopqrstuvwxyz"
        cells = [(one + other, 999) for one in letters[:5] for other in letters]
        names = [name for name, _ in cells]
        slots = [memo("m" + one + other, named("aa"), names[::-1]) for one in letters[:5] for other in letters]
        puts = [(name, named("mab") + now(name)) for name in names]
        part = Part(cells, slots + [handler("up", 999, puts, names)], [named(slot.name) for slot in slots])
        self.assertEqual(len(part), 131)
        self.assertEqual(part["mab"], names)
        self.assertEqual(part.full()["up"], names + [slot.name for slot in slots])

    def test_long_values(self):
        value = A
        for _ in range(13):
            value = value * (10 ** 20 - 1)
        part = Part([("a", 2)], [memo("m", value, ["a"])], [value, M])
        self.assertEqual(part, part.full())
        self.assertNotEqual(part, Part([("a", 2)], [memo("m", value * 1, ["a"])], [value, M]))


if __name__ == "__main__":
    unittest.main()
