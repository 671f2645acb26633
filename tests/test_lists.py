"""Promises 9 and 10: the sets of names that change where a slot turns, and the lists that are right."""

import itertools
import unittest

from beside import many
from drawn import drawn
from elderruns.errors import UnknownName
from elderruns.lists import is_right_list, least_lists, missing_row, turning
from elderruns.parts import Part, handler, memo
from elderruns.values import named, now, passed

N, B, D, M, W = named("n"), named("b"), named("d"), named("m"), named("w")
MORE = handler("more", 1, [("n", now("n") + 1)], [])
FLIP = handler("flip", 1, [("b", ~now("b"))], [])


class Turning(unittest.TestCase):
    def test_a_slot_that_never_turns(self):
        slots = [memo("m", B + 3, []), MORE, handler("set", 2, [("n", N * 0 + passed())], ["n"]), memo("w", N // 4, ["n"])]
        part = Part([("n", 4), ("b", 2)], slots, [])
        for name in part.slots:
            for together in (False, True):
                self.assertEqual(turning(part, name, together), [])
                self.assertEqual(least_lists(part, name, together), [[]])

    def test_each_name_for_itself(self):
        part = Part([("n", 3), ("b", 2)], [memo("m", N * B + N, []), MORE, FLIP], [])
        self.assertEqual(turning(part, "m"), [["n"], ["b"]])
        self.assertEqual(least_lists(part, "m"), [["n", "b"]])
        self.assertEqual(turning(part=part, name="m", together=True), [["n"], ["b"]])

    def test_names_that_change_together(self):
        both = handler("both", 1, [("n", now("n") + 1), ("b", ~now("b"))], [])
        part = Part([("n", 4), ("b", 2)], [memo("m", N, []), both], [])
        self.assertEqual(turning(part, "m"), [["n", "b"]])
        self.assertEqual(least_lists(part, "m"), [["n"], ["b"]])
        # Two events within one batch leave b as it was.
        self.assertEqual(turning(part, "m", True), [["n"]])
        self.assertEqual(least_lists(part, "m", True), [["n"]])

    def test_the_order_of_cells_and_then_slots(self):
        slots = [memo("z", N, []), memo("a", N + B, []), memo("m", N, []),
                 handler("up", 1, [("n", N + 1), ("d", ~now("d"))], []), FLIP]
        part = Part([("n", 2), ("d", 2), ("b", 2)], slots, [])
        self.assertEqual(turning(part, "m"), [["n", "d", "z", "a"]])
        self.assertEqual(least_lists(part, "m"), [["n"], ["d"], ["z"], ["a"]])
        self.assertEqual(turning(part, "a"), [["b"], ["n", "d", "z"]])
        self.assertEqual(least_lists(part, "a"), [["n", "b"], ["d", "b"], ["b", "z"]])
        self.assertEqual(least_lists(part, "up"), [["n"], ["d"], ["z"], ["a"], ["m"]])

    def test_sets_with_all_names_of_another_one_are_left_out(self):
        slots = [memo("m", N + B, []), handler("one", 1, [("n", now("n") + 1)], []),
                 handler("two", 1, [("n", now("n") + 1), ("d", ~now("d"))], []),
                 handler("three", 1, [("b", ~now("b")), ("d", ~now("d"))], [])]
        part = Part([("n", 4), ("b", 2), ("d", 2)], slots, [])
        self.assertEqual(turning(part, "m"), [["n"], ["b", "d"]])
        self.assertEqual(least_lists(part, "m"), [["n", "b"], ["n", "d"]])

    def test_lists_by_their_number_of_names(self):
        # n alone is enough; otherwise the memos that tell its halves are needed, both of them.
        slots = [memo("low", N.rest(2), []), memo("high", N // 2, []), memo("m", N, []),
                 handler("set", 4, [("n", passed())], [])]
        part = Part([("n", 4)], slots, [])
        self.assertEqual(turning(part, "m"), [["n", "low"], ["n", "high"]])
        self.assertEqual(least_lists(part, "m"), [["n"], ["low", "high"]])

    def test_only_memos_ahead_count(self):
        slots = [memo("m", N, []), memo("w", N, []), MORE]
        part = Part([("n", 2)], slots, [])
        self.assertEqual((turning(part, "m"), turning(part, "w")), ([["n"]], [["n", "m"]]))

    def test_handlers_turn_for_all_that_cells_may_hold(self):
        slots = [handler("put", 2, [("d", N * passed() * now("b").same(2))], []), MORE]
        part = Part([("n", 2), ("b", 3), ("d", 2)], slots, [])
        self.assertEqual(turning(part, "put"), [["n"]])
        self.assertEqual(turning(Part([("n", 2), ("b", 2), ("d", 2)], slots, []), "put"), [])

    def test_own_and_other_lists_do_not_count(self):
        part = Part([("n", 3), ("b", 2)], [memo("m", N * B, []), memo("w", M + N, []), MORE, FLIP], [])
        full = part.full()
        for name in part.slots:
            self.assertEqual(turning(part, name), turning(full, name))
            self.assertEqual(least_lists(part, name), least_lists(full, name))

    def test_each_list_is_new(self):
        part = Part([("n", 3), ("b", 2)], [memo("m", N + B, []), MORE, FLIP], [])
        for ask, awaited in ((turning, [["n"], ["b"]]), (least_lists, [["n", "b"]])):
            found = ask(part, "m")
            for one in found:
                one.append("x")
            found.clear()
            self.assertEqual(ask(part, "m"), awaited)


class RightLists(unittest.TestCase):
    part = Part([("n", 3), ("b", 2)], [memo("w", N * B, ["n"]), memo("m", W + B, []), MORE, FLIP], [M])

    def test_names_in_any_order_and_told_twice(self):
        for names in (["n", "b"], ["b", "n"], ["b", "b", "n", "b"], ["n", "b", "n", "n"], ["w", "n", "b", "w"], ["w", "b"],
                      ["b", "w", "b", "w"]):
            kept = list(names)
            self.assertIs(is_right_list(self.part, "m", names), True)
            self.assertIs(is_right_list(part=self.part, name="m", names=names, together=False), True)
            self.assertIsNone(missing_row(self.part, "m", names))
            self.assertEqual(names, kept)

    def test_wrong_lists(self):
        for names, row in (([], [[("flip", 0)]]), (["n"], [[("flip", 0)]]), (["n", "n"], [[("flip", 0)]]),
                           (["b"], [[("flip", 0)], [("more", 0)]]), (["w"], [[("flip", 0)]]), (["w", "n", "w"], [[("flip", 0)]])):
            self.assertIs(is_right_list(self.part, "m", names), False)
            self.assertEqual(missing_row(self.part, "m", names), row)
            self.assertEqual(missing_row(part=self.part, name="m", names=names, together=False), row)

    def test_the_empty_list_and_all_names(self):
        for name, empty in (("w", False), ("m", False), ("more", True), ("flip", True)):
            names = self.part.full()[name]
            for together in (False, True):
                self.assertIs(is_right_list(self.part, name, [], together), empty)
                self.assertIs(is_right_list(self.part, name, names, together), True)
                self.assertIs(missing_row(self.part, name, [], together) is None, empty)
                self.assertIsNone(missing_row(self.part, name, names, together))

    def test_plain_rows_and_all_rows(self):
        both = handler("both", 1, [("n", now("n") + 1), ("b", ~now("b"))], [])
        part = Part([("n", 4), ("b", 2)], [memo("m", N, []), both], [])
        self.assertIs(is_right_list(part, "m", ["b"]), True)
        self.assertIs(is_right_list(part, "m", ["b"], True), False)
        self.assertIs(is_right_list(part, "m", ["n"], together=True), True)
        self.assertIsNone(missing_row(part, "m", ["b"]))
        self.assertEqual(missing_row(part, "m", ["b"], True), [[("both", 0), ("both", 0)]])
        self.assertIsNone(missing_row(part, "m", ["n"], together=True))
        self.assertEqual(missing_row(part, "m", []), [[("both", 0)]])
        self.assertEqual(missing_row(part, "m", [], True), [[("both", 0)]])

    def test_only_the_last_step_counts_and_the_fresh_part(self):
        # The slots ahead are wrong and kept, yet the row is one of the fresh part.
        slots = [handler("up", 1, [("n", N + 1)], []), memo("m", N.same(3), [])]
        part = Part([("n", 4)], slots, [])
        self.assertEqual(missing_row(part, "m", []), [[("up", 0)]] * 3)
        self.assertEqual(missing_row(part, "up", []), [[("up", 0)]])

    def test_long_rows(self):
        slots = [memo("w", N.rest(15), []), memo("m", N.same(15), []), MORE]
        part = Part([("n", 16)], slots, [])
        self.assertEqual(missing_row(part, "m", ["w"]), [[("more", 0)]] * 16)
        self.assertEqual(missing_row(part, "m", ["w"], True), [[("more", 0)] * 15])
        self.assertEqual(missing_row(part, "m", []), [[("more", 0)]] * 15)

    def test_each_list_is_new(self):
        row = missing_row(self.part, "w", ["b"])
        self.assertEqual(row, [[("flip", 0)], [("more", 0)]])
        row[0].clear()
        row.clear()
        self.assertEqual(missing_row(self.part, "w", ["b"]), [[("flip", 0)], [("more", 0)]])


class Errors(unittest.TestCase):
    part = Part([("n", 3), ("b", 2)], [memo("w", N, []), MORE, memo("m", W, []), FLIP], [])

    def due(self, value, call):
        with self.assertRaises(UnknownName) as caught:
            call()
        self.assertIs(type(caught.exception), UnknownName)
        self.assertEqual(caught.exception.value, value)

    def test_no_slot(self):
        for name in ("n", "b", "x", "", "More"):
            for together in (False, True):
                for ask in (turning, least_lists):
                    self.due(name, lambda: ask(self.part, name, together))
                    self.due(name, lambda: ask(part=self.part, name=name, together=together))
                for ask in (is_right_list, missing_row):
                    for names in ([], ["n"], ["y", "x"]):
                        self.due(name, lambda: ask(self.part, name, names, together))

    def test_no_cell_and_no_memo_ahead(self):
        for ask in (is_right_list, missing_row):
            self.due("x", lambda: ask(self.part, "m", ["x"]))
            self.due("z", lambda: ask(self.part, "m", ["n", "w", "n", "z", "y"]))
            self.due("m", lambda: ask(self.part, "m", ["w", "m"]))
            self.due("more", lambda: ask(self.part, "m", ["more", "x"]))
            self.due("m", lambda: ask(self.part, "more", ["w", "b", "m"]))
            self.due("m", lambda: ask(self.part, "w", ["m", "w"]))
            self.due("flip", lambda: ask(self.part, "flip", names=["m", "w", "flip"], together=True))
            ask(self.part, "flip", ["m", "w", "b", "n", "m"])


class Drawn(unittest.TestCase):
    def test_beside_all_that_comes(self):
        lengths = []
        for plan, drawing in drawn(0, 60):
            part, most = plan.built(), {0: 0, 1: 6, 2: 4, 3: 3}[len(plan.events)]
            for index, slot in enumerate(plan.slots):
                for together in (False, True):
                    self.assertEqual(turning(part, slot[1], together), plan.turning(index, together))
                    self.assertEqual(least_lists(part, slot[1], together), plan.least_lists(index, together))
                    names = [name for name in plan.ahead(index) * 2 if drawing.draw.random() < 0.3]
                    row, found = missing_row(part, slot[1], names, together), plan.missing_row(index, names, together, most)
                    self.assertEqual(row if row is None or many(row) <= most else None, found)
                    self.assertIs(is_right_list(part, slot[1], names, together), row is None)
                    lengths.append(None if row is None else many(row))
        self.assertGreater(min(lengths.count(None), lengths.count(1), len(lengths) - lengths.count(None) - lengths.count(1)), 5)

    def test_right_lists_meet_all_sets(self):
        for plan, _ in drawn(60, 80):
            part = plan.built()
            for index, slot in enumerate(plan.slots):
                sets, names = turning(part, slot[1]), plan.ahead(index)
                for size in range(len(names) + 1):
                    for told in itertools.combinations(names, size):
                        self.assertIs(is_right_list(part, slot[1], list(told)), all(set(told) & set(one) for one in sets))


if __name__ == "__main__":
    unittest.main()
