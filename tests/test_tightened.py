"""Promises 9 and 10: parts with their least lists, and names that stand beside a slot for nothing."""

import unittest

from drawn import drawn
from elderruns.errors import NotRight
from elderruns.lists import idle, is_right_list, least_lists, tightened
from elderruns.parts import Part, handler, memo
from elderruns.plays import wrong_row
from elderruns.values import named, now, passed

N, B, M, W = named("n"), named("b"), named("m"), named("w")
MORE = handler("more", 1, [("n", now("n") + 1)], [])
FLIP = handler("flip", 1, [("b", ~now("b"))], [])
BOTH = handler("both", 1, [("n", now("n") + 1), ("b", ~now("b"))], [])


def lists(part):
    """Return the lists of all slots of a part."""
    return [part[name] for name in part.slots]


class Tightened(unittest.TestCase):
    def test_full_lists(self):
        slots = [memo("m", N * B, []), handler("up", 2, [("n", N + passed())], []), memo("w", M * 2, []), FLIP]
        part = Part([("n", 3), ("b", 2), ("d", 2)], slots, [W])
        for together in (False, True):
            self.assertEqual(lists(tightened(part.full(), together)), [["n", "b"], ["n"], ["m"], []])
            self.assertEqual(tightened(part.full(), together), tightened(part, together))

    def test_right_lists_stay_if_they_are_the_first_least_ones(self):
        part = Part([("n", 3), ("b", 2)], [memo("m", N * B, ["n", "b"]), handler("up", 1, [("n", N + 1)], ["n"]), FLIP], [M])
        self.assertEqual(tightened(part), part)
        self.assertEqual(tightened(part=part, together=True), part)

    def test_the_first_one_is_taken_even_if_another_least_one_stands_there(self):
        part = Part([("n", 4), ("b", 2)], [memo("w", N, ["n"]), memo("m", N, ["w"]), BOTH], [M])
        self.assertEqual(lists(tightened(part)), [["n"], ["n"], []])
        self.assertEqual(lists(tightened(part.having("w", ["b"]), True)), [["n"], ["n"], []])

    def test_plain_and_together(self):
        part = Part([("b", 2), ("n", 4)], [memo("m", N, ["n"]), BOTH], [M])
        self.assertEqual(lists(tightened(part)), [["b"], []])
        self.assertEqual(lists(tightened(part, True)), [["n"], []])

    def test_all_but_the_lists_stays(self):
        slots = [memo("m", N * B, []), memo("w", M, ["n"]), MORE, FLIP]
        part = Part([("n", 3), ("b", 2)], slots, [W, 4])
        found = tightened(part)
        for name in part.slots:
            found = found.having(name, part[name])
        self.assertEqual(found, part)
        self.assertEqual(part, Part([("n", 3), ("b", 2)], slots, [W, 4]))

    def test_little_parts(self):
        for part in (Part([], [], []), Part([("n", 4)], [], [N]), Part([], [memo("m", 3, []), handler("wait", 1, [], [])], [M])):
            self.assertEqual(tightened(part), part)
        self.assertEqual(lists(tightened(Part([("n", 4)], [memo("m", N, ["n"]), memo("w", M, ["m"])], []))), [[], []])


class Idle(unittest.TestCase):
    def test_full_lists(self):
        slots = [memo("m", N * B, []), memo("w", M, []), handler("up", 1, [("n", N + 1)], []), FLIP]
        part = Part([("n", 3), ("b", 2)], slots, [W]).full()
        self.assertEqual(idle(part), [("w", "n"), ("w", "b"), ("w", "m"), ("up", "b"), ("up", "m"), ("up", "w"),
                                      ("flip", "n"), ("flip", "b"), ("flip", "m"), ("flip", "w")])
        self.assertEqual(idle(part=part, together=True), idle(part))

    def test_each_name_alone(self):
        # Without n or without w the list is right, yet not without both.
        part = Part([("n", 3)], [memo("w", N, ["n"]), memo("m", N, ["n", "w"]), MORE], [M])
        self.assertEqual(idle(part), [("m", "n"), ("m", "w")])
        self.assertEqual(idle(part.having("m", ["w"])), [])
        with self.assertRaises(NotRight):
            idle(part.having("m", []))

    def test_plain_and_together(self):
        part = Part([("n", 4), ("b", 2)], [memo("m", N, ["n", "b"]), BOTH], [M])
        self.assertEqual(idle(part), [("m", "n"), ("m", "b")])
        self.assertEqual(idle(part, True), [("m", "b")])
        part = part.having("m", ["b"])
        self.assertEqual(idle(part), [])
        with self.assertRaises(NotRight) as caught:
            idle(part, True)
        self.assertEqual(caught.exception.value, [[("both", 0), ("both", 0)]])

    def test_not_right(self):
        part = Part([("n", 16)], [memo("m", N.same(9), []), memo("w", N.same(12), ["n"]), MORE], [])
        for together in (False, True):
            for call in (lambda: idle(part, together), lambda: idle(part=part, together=together)):
                with self.assertRaises(NotRight) as caught:
                    call()
                self.assertIs(type(caught.exception), NotRight)
                self.assertEqual(caught.exception.value, [[("more", 0)]] * 9)
                self.assertEqual(caught.exception.value, wrong_row(part, together))

    def test_little_parts(self):
        for part in (Part([], [], []), Part([("n", 4)], [], [N]), Part([("n", 4)], [memo("m", N, [])], [])):
            self.assertEqual(idle(part), [])
        self.assertEqual(idle(Part([("n", 4), ("b", 1)], [memo("m", N, ["b", "n"])], [])), [("m", "n"), ("m", "b")])

    def test_the_list_is_new(self):
        part = Part([("n", 3)], [memo("m", 4, ["n"]), MORE], [])
        idle(part).clear()
        self.assertEqual(idle(part), [("m", "n")])


class Drawn(unittest.TestCase):
    def test_tight_parts_are_right_and_have_nothing_idle(self):
        for plan, _ in drawn(0, 120):
            part = plan.built()
            for together in (False, True):
                tight = tightened(part, together)
                self.assertIsNone(wrong_row(tight, together))
                self.assertEqual(idle(tight, together), [])
                self.assertEqual(lists(tight), [least_lists(part, name, together)[0] for name in part.slots])

    def test_idle_names_by_the_lists_without_them(self):
        raised = 0
        for plan, _ in drawn(120, 220):
            for part in (plan.built(), plan.built().full()):
                for together in (False, True):
                    row = wrong_row(part, together)
                    if row is None:
                        self.assertEqual(idle(part, together), [
                            (name, one) for name in part.slots for one in part[name]
                            if is_right_list(part, name, [other for other in part[name] if other != one], together)])
                    else:
                        raised += 1
                        with self.assertRaises(NotRight) as caught:
                            idle(part, together)
                        self.assertEqual(caught.exception.value, row)
        self.assertGreater(raised, 20)


if __name__ == "__main__":
    unittest.main()
