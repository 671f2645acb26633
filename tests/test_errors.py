"""Promise 3: the errors, how they are constructed, and what they keep."""

import unittest

from elderruns import errors
from elderruns.errors import (
    DoubleName, EmptyBatch, InvalidArgument, InvalidDivisor, InvalidName, InvalidSize, NotHere, NothingToUndo,
    NotRight, RunError, UnknownHandler, UnknownName, UnlikeHandlers, Unreadable)

BELOW = [InvalidName, InvalidSize, DoubleName, UnknownName, InvalidDivisor, NotHere, UnknownHandler, InvalidArgument,
         EmptyBatch, UnlikeHandlers, NotRight, NothingToUndo, Unreadable]


class Unlike:
    """Something that is not equal even to itself and has no text."""

    def __eq__(self, other):
        return False

    def __repr__(self):
        raise RuntimeError("this has no text")


class ErrorClasses(unittest.TestCase):
    def test_the_names_of_the_classes(self):
        self.assertEqual([one.__name__ for one in BELOW], [
            "InvalidName", "InvalidSize", "DoubleName", "UnknownName", "InvalidDivisor", "NotHere", "UnknownHandler",
            "InvalidArgument", "EmptyBatch", "UnlikeHandlers", "NotRight", "NothingToUndo", "Unreadable"])
        for one in BELOW + [RunError]:
            self.assertEqual(one.__module__, "elderruns.errors")

    def test_there_are_no_other_classes(self):
        found = [thing for thing in vars(errors).values() if isinstance(thing, type)]
        self.assertEqual(sorted(one.__name__ for one in found), sorted(one.__name__ for one in BELOW + [RunError]))

    def test_bases(self):
        self.assertEqual(RunError.__bases__, (ValueError,))
        for one in BELOW:
            self.assertEqual(one.__bases__, (RunError,), one)

    def test_caught_by_the_own_name_and_both_bases(self):
        for one in BELOW:
            for name in (one, RunError, ValueError):
                try:
                    raise one("told")
                except name as caught:
                    self.assertIs(type(caught), one)
                    self.assertEqual(caught.value, "told")

    def test_the_base_class_is_raised_and_caught(self):
        for name in (RunError, ValueError):
            try:
                raise RunError(3)
            except name as caught:
                self.assertIs(type(caught), RunError)
                self.assertEqual(caught.value, 3)

    def test_not_caught_by_another_name(self):
        for one in BELOW:
            for other in BELOW:
                self.assertEqual(isinstance(one(0), other), one is other)
        for one in BELOW:
            self.assertNotIsInstance(RunError(0), one)


class ErrorValues(unittest.TestCase):
    def test_by_position_and_by_name(self):
        for one in BELOW + [RunError]:
            self.assertEqual(one(7).value, 7)
            self.assertEqual(one(value=7).value, 7)

    def test_one_argument(self):
        for one in BELOW + [RunError]:
            for told in ((), (1, 2)):
                with self.assertRaises(TypeError):
                    one(*told)
            with self.assertRaises(TypeError):
                one(other=1)

    def test_the_argument_itself_is_kept(self):
        for one in BELOW + [RunError]:
            for thing in (None, True, 0, -5, 10 ** 20, "", "name", b"x", (), ("a", 1), [], {}, Unlike(), one, one(1)):
                self.assertIs(one(thing).value, thing)
                self.assertIs(one(value=thing).value, thing)

    def test_lists_and_dicts_that_grow_afterwards(self):
        for one in BELOW + [RunError]:
            row, table = [1], {"a": 1}
            by_position, by_name = one(row), one(value=table)
            row.append(2)
            table["b"] = 2
            self.assertIs(by_position.value, row)
            self.assertIs(by_name.value, table)
            self.assertEqual((by_position.value, by_name.value), ([1, 2], {"a": 1, "b": 2}))

    def test_each_object_has_its_own_attribute(self):
        one, other = InvalidName("a"), InvalidName("b")
        self.assertEqual((one.value, other.value), ("a", "b"))
        self.assertFalse(hasattr(InvalidName, "value"))


if __name__ == "__main__":
    unittest.main()
