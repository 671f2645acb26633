"""Promises 4 and 9: slots, their errors, and when they are equal."""

import unittest

from elderruns.errors import InvalidName, InvalidSize
from elderruns.parts import Part, Slot, handler, memo
from elderruns.values import named, now, number, passed

A, B = named("a"), named("b")


class Made(unittest.TestCase):
    def test_both_kinds_are_slots(self):
        for slot in (memo("seen", A, ["a"]), handler("up", 2, [("a", A + passed())], ["a"])):
            self.assertIs(type(slot), Slot)
        self.assertEqual(memo("seen", A, ["a"]).name, "seen")
        self.assertEqual(handler("up", 2, [], []).name, "up")

    def test_by_name(self):
        self.assertEqual(memo(name="seen", value=A, names=["a"]), memo("seen", A, ["a"]))
        self.assertEqual(handler(name="up", number=2, puts=[("a", B)], names=["a"]), handler("up", 2, [("a", B)], ["a"]))

    def test_name_is_a_property_that_is_only_read(self):
        self.assertIsInstance(vars(Slot)["name"], property)
        with self.assertRaises(AttributeError):
            memo("seen", 0, []).name = "other"

    def test_what_a_part_would_not_take(self):
        # Only a part knows its cells, so that a slot alone is told anything.
        for slot in (memo("seen", now("x") + passed() + named("seen"), ["seen", "x", "x", "Not a name"]),
                     handler("up", 1, [("Not a name", named("up")), ("", now("up"))], ["up", "up", ""])):
            self.assertIs(type(slot), Slot)


class Errors(unittest.TestCase):
    def test_invalid_size(self):
        for many in (0, -1, -2, -1000, -10 ** 20):
            for make in (lambda: handler("up", many, [], []), lambda: handler(name="up", number=many, puts=[], names=[])):
                with self.assertRaises(InvalidSize) as caught:
                    make()
                self.assertEqual(caught.exception.value, many)

    def test_the_name_is_checked_first(self):
        for many in (1, 0, -1):
            with self.assertRaises(InvalidName) as caught:
                handler("Up", many, [("Up", 1)], ["Up"])
            self.assertEqual(caught.exception.value, "Up")
        with self.assertRaises(InvalidName) as caught:
            memo("toolongaa", passed(), ["x", "x"])
        self.assertEqual(caught.exception.value, "toolongaa")

    def test_numbers_of_arguments(self):
        for many in (1, 2, 3, 6, 40, 999, 1000, 10 ** 20):
            part = Part([], [handler("up", many, [], [])], [])
            self.assertEqual(part.handlers, [("up", many)])


def all_unlike():
    """Return slots that are all unlike each other, most of them in one thing."""
    return [
        memo("seen", A + 1, ["a", "b"]), memo("sees", A + 1, ["a", "b"]), memo("seen", A + 2, ["a", "b"]),
        memo("seen", B + 1, ["a", "b"]), memo("seen", 1 + A, ["a", "b"]), memo("seen", A - 1, ["a", "b"]),
        memo("seen", A + 1, ["b", "a"]), memo("seen", A + 1, ["a"]), memo("seen", A + 1, ["b"]), memo("seen", A + 1, []),
        memo("seen", A + 1, ["a", "b", "a"]), memo("seen", A + 1, ["a", "c"]), memo("seen", 1, []), memo("seen", 0, []),
        handler("up", 2, [("a", A + 1), ("b", passed())], ["a", "b"]),
        handler("down", 2, [("a", A + 1), ("b", passed())], ["a", "b"]),
        handler("up", 1, [("a", A + 1), ("b", passed())], ["a", "b"]),
        handler("up", 2, [("b", A + 1), ("b", passed())], ["a", "b"]),
        handler("up", 2, [("a", A + 2), ("b", passed())], ["a", "b"]),
        handler("up", 2, [("a", A + 1), ("a", passed())], ["a", "b"]),
        handler("up", 2, [("a", A + 1), ("b", 0)], ["a", "b"]),
        handler("up", 2, [("b", passed()), ("a", A + 1)], ["a", "b"]),
        handler("up", 2, [("a", A + 1)], ["a", "b"]), handler("up", 2, [("b", passed())], ["a", "b"]),
        handler("up", 2, [], ["a", "b"]), handler("up", 2, [("a", A + 1), ("b", passed()), ("b", passed())], ["a", "b"]),
        handler("up", 2, [("a", A + 1), ("b", passed())], ["b", "a"]),
        handler("up", 2, [("a", A + 1), ("b", passed())], ["a"]),
        handler("up", 2, [("a", A + 1), ("b", passed())], []),
        handler("up", 2, [("a", A + 1), ("b", passed())], ["a", "a", "b"]),
        handler("up", 2, [], []), handler("seen", 1, [], []), handler("seen", 1, [("a", A + 1)], ["a", "b"]),
    ]


class Equality(unittest.TestCase):
    def test_built_alike(self):
        for one, other in zip(all_unlike(), all_unlike()):
            self.assertTrue(one == other)
            self.assertFalse(one != other)

    def test_built_unlike(self):
        slots = all_unlike()
        for at, one in enumerate(slots):
            for place, other in enumerate(slots):
                self.assertIs(one == other, at == place, (at, place))
                self.assertIs(one != other, at != place, (at, place))

    def test_an_integer_is_built_as_a_number(self):
        self.assertEqual(memo("seen", 3, []), memo("seen", number(3), []))
        self.assertNotEqual(memo("seen", 3, []), memo("seen", number(4), []))
        self.assertEqual(handler("up", 1, [("a", -3)], []), handler("up", 1, [("a", number(-3))], []))
        self.assertNotEqual(handler("up", 1, [("a", -3)], []), handler("up", 1, [("a", number(3))], []))

    def test_not_equal_to_anything_else(self):
        for slot in (memo("seen", A, ["a"]), handler("up", 1, [("a", A)], ["a"])):
            for other in (slot.name, A, 0, 1, None, [], ["a"], ("seen", A, ["a"]), {}, object(), Part([], [], [])):
                self.assertIs(slot == other, False)
                self.assertIs(other == slot, False)
                self.assertIs(slot != other, True)


class Unchanging(unittest.TestCase):
    def test_lists_that_change_afterwards(self):
        names, puts = ["a"], [("a", A + 1)]
        kept, done = memo("seen", A, names), handler("up", 1, puts, names)
        names.append("b")
        puts.append(("b", B))
        self.assertEqual(kept, memo("seen", A, ["a"]))
        self.assertEqual(done, handler("up", 1, [("a", A + 1)], ["a"]))
        names.clear()
        puts.clear()
        self.assertEqual(kept, memo("seen", A, ["a"]))
        self.assertEqual(done, handler("up", 1, [("a", A + 1)], ["a"]))

    def test_the_arguments_stay_as_they_were(self):
        names, puts = ["b", "a", "a"], [("a", 1), ("b", A)]
        memo("seen", A, names)
        handler("up", 1, puts, names)
        self.assertEqual((names, puts), (["b", "a", "a"], [("a", 1), ("b", A)]))
        self.assertIs(type(puts[0][1]), int)

    def test_one_slot_in_several_parts(self):
        slot = memo("seen", A, ["b", "a"])
        one, other = Part([("a", 2), ("b", 2)], [slot], []), Part([("b", 2), ("a", 2)], [slot], [])
        self.assertEqual((one["seen"], other["seen"]), (["a", "b"], ["b", "a"]))
        self.assertEqual(slot, memo("seen", A, ["b", "a"]))


if __name__ == "__main__":
    unittest.main()
