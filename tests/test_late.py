"""Handlers that somebody kept for later, and batches that end unlike their events one by one."""

import unittest

from beside import many
from drawn import drawn
from elderruns.errors import UnknownHandler
from elderruns.late import can_wait, cut_rows, late_rows
from elderruns.parts import Part, handler, memo
from elderruns.values import named, now, passed

N, B, D, M = named("n"), named("b"), named("d"), named("m")
MORE = handler("more", 1, [("n", now("n") + 1)], [])
FLIP = handler("flip", 1, [("b", ~now("b"))], [])
STEP = [("more", 0)]


class LateRows(unittest.TestCase):
    def late(self, part, name, awaited):
        found = late_rows(part, name)
        self.assertEqual(found, awaited)
        self.assertEqual(late_rows(part=part, name=name), awaited)
        self.assertIs(can_wait(part, name), awaited is None)
        self.assertIs(can_wait(part=part, name=name), awaited is None)
        if awaited is not None:
            self.assertIs(type(found), tuple)
            self.assertEqual([type(one) for one in found], [list, list])

    def test_by_what_was_caught(self):
        part = Part([("n", 3)], [handler("up", 1, [("n", N + 1)], []), MORE], [])
        self.late(part, "up", ([], [[("up", 0)]]))
        self.late(part, "more", None)

    def test_the_list_does_not_count(self):
        for names in ([], ["n"]):
            self.late(Part([("n", 3)], [handler("up", 1, [("n", N + 1)], names)], []), "up", ([], [[("up", 0)]]))

    def test_by_a_memo_that_was_caught(self):
        slots = [memo("m", N // 2, []), handler("put", 1, [("b", M)], []), MORE]
        self.late(Part([("n", 4), ("b", 2)], slots, []), "put", ([], [STEP, STEP]))

    def test_what_was_caught_makes_no_difference(self):
        for value in (N * 0, N // 3, 1 - N.less(3)):
            self.late(Part([("n", 3), ("b", 2)], [handler("put", 2, [("b", value + passed())], []), MORE], []), "put", None)

    def test_by_what_the_cells_hold_there(self):
        # The old handler does something else only while b is 1, and nothing does put b.
        slots = [handler("put", 1, [("d", N * now("b"))], []), MORE]
        self.late(Part([("n", 2), ("b", 2), ("d", 2)], slots, []), "put", None)
        # It is late only where b is 1 and n is not what it was.
        part = Part([("n", 2), ("b", 2), ("d", 2)], slots + [FLIP], [])
        self.late(part, "put", ([], [STEP, [("flip", 0)]]))
        # Behind each row that comes back to n everything is as it was.
        slots = [handler("put", 1, [("d", (N - now("n")) * 0)], []), MORE]
        self.late(Part([("n", 2), ("d", 2)], slots, []), "put", None)

    def test_by_the_argument(self):
        slots = [handler("put", 3, [("b", B * 0 + passed().same(2) * N.same(2))], []), MORE]
        self.late(Part([("n", 3), ("b", 2)], slots, []), "put", ([], [STEP, STEP]))
        self.late(Part([("n", 3), ("b", 2)], [handler("put", 2, slots[0].puts, []), MORE], []), "put", None)

    def test_the_first_row_is_needed(self):
        slots = [handler("put", 1, [("d", N.same(1))], []), handler("go", 1, [("n", N + 1 - N.same(2))], [])]
        self.late(Part([("n", 3), ("d", 2)], slots, []), "put", ([], [[("go", 0)]]))
        # Made at 0 it does at 1 and at 2 what is done there; made at 1 it does something else at 2.
        slots = [handler("put", 1, [("d", now("d") + N.same(1) * now("n").same(2))], []),
                 handler("go", 1, [("n", N + 1 - N.same(2))], [])]
        self.late(Part([("n", 3), ("d", 2)], slots, []), "put", ([[("go", 0)]], [[("go", 0)]]))

    def test_the_least_number_of_events_in_the_first_row(self):
        # At 2 the handlers that were made at 0 and at 1 are both late: two events in all, none or one ahead.
        slots = [handler("put", 1, [("d", now("d") + N.same(0) * now("n").same(2) + N.same(1) * now("n").same(2))], []),
                 MORE]
        self.late(Part([("n", 4), ("d", 2)], slots, []), "put", ([], [STEP, STEP]))

    def test_the_first_in_the_order_of_events(self):
        slots = [handler("z", 2, [("n", passed() + 1)], []), handler("a", 2, [("b", passed())], []),
                 handler("put", 1, [("d", N + B)], [])]
        part = Part([("n", 3), ("b", 2), ("d", 4)], slots, [])
        self.late(part, "put", ([], [[("z", 0)]]))
        self.late(Part(part.cells, [slots[1], slots[0], slots[2]], []), "put", ([], [[("a", 1)]]))

    def test_the_order_of_the_first_rows_is_ahead_of_that_of_the_second_ones(self):
        slots = [handler("put", 1, [("d", now("d") + (N.same(1) & now("n").same(3)) + (N.same(2) & now("n").same(0)))], []),
                 handler("go", 2, [("n", N.same(0) * (passed() + 1) + N.same(1) * 3 + N.same(3) * 3)], [])]
        self.late(Part([("n", 4), ("d", 2)], slots, []), "put", ([[("go", 0)]], [[("go", 0)]]))

    def test_long_rows(self):
        slots = [handler("put", 1, [("n", now("n") + (N.same(5) & now("n").same(14)))], []), MORE]
        self.late(Part([("n", 16)], slots, []), "put", ([STEP] * 5, [STEP] * 9))

    def test_without_cells_and_puts(self):
        self.late(Part([], [handler("wait", 3, [], [])], []), "wait", None)
        self.late(Part([("n", 4)], [handler("wait", 3, [], []), MORE], []), "wait", None)

    def test_unknown_handlers(self):
        part = Part([("n", 3)], [memo("m", N, []), MORE], [])
        for name in ("m", "n", "x", "", "More", "moree"):
            for ask in (late_rows, can_wait):
                with self.assertRaises(UnknownHandler) as caught:
                    ask(part, name)
                self.assertIs(type(caught.exception), UnknownHandler)
                self.assertEqual(caught.exception.value, name)

    def test_each_list_is_new(self):
        part = Part([("n", 16)], [handler("put", 1, [("n", now("n") + (N.same(2) & now("n").same(4)))], []), MORE], [])
        found = late_rows(part, "put")
        self.assertEqual(found, ([STEP] * 2, [STEP] * 2))
        for row in found:
            row[0].clear()
            self.assertEqual(row[1], STEP)
            row.clear()
        self.assertEqual(late_rows(part, "put"), ([STEP] * 2, [STEP] * 2))


class CutRows(unittest.TestCase):
    def cut(self, part, awaited):
        found = cut_rows(part)
        self.assertEqual(found, awaited)
        self.assertEqual(cut_rows(part=part), awaited)
        if awaited is not None:
            self.assertIs(type(found), tuple)
            self.assertEqual([type(one) for one in found], [list, list])

    def test_by_what_was_caught(self):
        self.cut(Part([("n", 3)], [handler("up", 1, [("n", N + 1)], ["n"])], []), ([], [("up", 0), ("up", 0)]))

    def test_by_what_the_cells_hold_now(self):
        self.cut(Part([("n", 3), ("b", 2)], [MORE, FLIP, handler("put", 3, [("n", now("b") + passed())], [])], []), None)

    def test_little_parts(self):
        for part in (Part([], [], []), Part([], [handler("wait", 1, [], [])], []), Part([("n", 3)], [memo("m", N, [])], [])):
            self.cut(part, None)

    def test_by_the_argument(self):
        # Only behind the argument 1 something is unlike what was caught.
        slots = [handler("set", 2, [("n", passed())], []), handler("put", 2, [("b", N & passed())], [])]
        self.cut(Part([("n", 2), ("b", 2)], slots, []), ([], [("set", 1), ("put", 1)]))

    def test_the_row_ahead_is_needed(self):
        slots = [handler("go", 1, [("n", now("n") + 1)], []), handler("put", 1, [("d", N.same(1) & now("n").same(2))], [])]
        self.cut(Part([("n", 3), ("d", 2)], slots, []), ([[("go", 0)]], [("go", 0), ("put", 0)]))

    def test_the_least_number_in_the_batch(self):
        # A batch of three events leaves something else at once, one of two events only behind one event.
        slots = [handler("go", 1, [("n", now("n") + 1)], []),
                 handler("put", 1, [("d", now("n").same(2) & (N.same(1) | N.same(0)))], [])]
        self.cut(Part([("n", 3), ("d", 2)], slots, []), ([[("go", 0)]], [("go", 0), ("put", 0)]))
        slots = [slots[0], handler("put", 1, [("d", now("n").same(2) & N.same(0))], [])]
        self.cut(Part([("n", 3), ("d", 2)], slots, []), ([], [("go", 0), ("go", 0), ("put", 0)]))

    def test_the_first_in_the_order_of_events(self):
        slots = [handler("z", 2, [("n", 2 - passed())], []), handler("a", 1, [("n", N + 1)], [])]
        self.cut(Part([("n", 4)], slots, []), ([], [("z", 0), ("a", 0)]))
        self.cut(Part([("n", 4)], slots[::-1], []), ([], [("a", 0), ("a", 0)]))
        slots = [handler("z", 2, [("n", passed())], []), handler("a", 1, [("b", N & 1)], [])]
        self.cut(Part([("n", 2), ("b", 2)], slots, []), ([], [("z", 1), ("a", 0)]))

    def test_the_first_of_several_rows_ahead(self):
        # Behind 1 and behind 2 the same batch is cut, behind 0 none is.
        slots = [handler("go", 2, [("n", now("n").same(0) * (passed() + 1))], []),
                 handler("put", 1, [("d", (N.same(1) | N.same(2)) & now("n").same(0))], [])]
        self.cut(Part([("n", 3), ("d", 2)], slots, []), ([[("go", 0)]], [("go", 0), ("put", 0)]))
        slots = [handler("go", 2, [("n", now("n").same(0) * (2 - passed()))], []), slots[1]]
        self.cut(Part([("n", 3), ("d", 2)], slots, []), ([[("go", 0)]], [("go", 0), ("put", 0)]))

    def test_a_difference_that_is_made_up_within_the_batch(self):
        # What the second event leaves is unlike, yet the third one puts it away; the shorter batch is told.
        slots = [handler("up", 1, [("n", N + 1)], ["n"]), handler("zero", 1, [("n", 0)], [])]
        self.cut(Part([("n", 3)], slots, []), ([], [("up", 0), ("up", 0)]))

    def test_long_rows(self):
        slots = [MORE, handler("put", 1, [("n", now("n") + (N.same(8) & now("n").same(13)))], [])]
        self.cut(Part([("n", 16)], slots, []), ([STEP] * 8, [("more", 0)] * 5 + [("put", 0)]))

    def test_each_list_is_new(self):
        part = Part([("n", 3), ("d", 2)], [MORE, handler("put", 1, [("d", N.same(1) & now("n").same(2))], [])], [])
        row, batch = cut_rows(part)
        row[0].clear()
        row.clear()
        batch.clear()
        self.assertEqual(cut_rows(part), ([STEP], [("more", 0), ("put", 0)]))


class Drawn(unittest.TestCase):
    def test_late_rows_beside_all_that_comes(self):
        answers = []
        for plan, _ in drawn(0, 60):
            part, most = plan.built(), {0: 0, 1: 6, 2: 4, 3: 3}[len(plan.events)]
            for name, _ in part.handlers:
                found = late_rows(part, name)
                short = None if found is None or many(found[0] + found[1]) > most else found
                self.assertEqual(short, plan.late_rows(name, most))
                self.assertIs(can_wait(part, name), found is None)
                answers.append(short)
        self.assertGreater(min(answers.count(None), len(answers) - answers.count(None)), 15)

    def test_cut_rows_beside_all_that_comes(self):
        answers = []
        for plan, _ in drawn(60, 130):
            part, most = plan.built(), {0: 0, 1: 6, 2: 4, 3: 3}[len(plan.events)]
            found = cut_rows(part)
            short = None if found is None or many(found[0]) + len(found[1]) > most else found
            self.assertEqual(short, plan.cut_rows(most))
            answers.append(short)
        self.assertGreater(min(answers.count(None), len(answers) - answers.count(None)), 15)


if __name__ == "__main__":
    unittest.main()
