"""Promises 7, 8 and 9: when slots and parts are right, and the first row behind which they are not."""

import unittest

from elderruns.parts import Part, handler, memo
from elderruns.plays import play, play_fresh, wrong_row
from elderruns.values import named, now, number, passed

N, B, M, W = named("n"), named("b"), named("m"), named("w")
MORE = handler("more", 1, [("n", now("n") + 1)], [])
FLIP = handler("flip", 1, [("b", ~now("b"))], [])


class Right(unittest.TestCase):
    def both(self, part):
        self.assertIsNone(wrong_row(part))
        self.assertIsNone(wrong_row(part, True))

    def test_full_parts(self):
        slots = [memo("m", N * B, []), handler("up", 2, [("n", N + passed() + M)], []), memo("w", M + N, []), FLIP]
        part = Part([("n", 4), ("b", 2)], slots, [W])
        self.both(part.full())
        self.assertIsNotNone(wrong_row(part))

    def test_little_parts(self):
        for part in (Part([], [], []), Part([("n", 4)], [], [N]), Part([], [memo("m", 3, [])], [M]),
                     Part([], [handler("wait", 2, [], [])], []), Part([("n", 4)], [memo("m", N, [])], [M]),
                     Part([("n", 1)], [memo("m", N, []), MORE], [M])):
            self.both(part)

    def test_what_never_changes_needs_no_list(self):
        # The cell b is never put, so that neither the memo nor the handler is ever old.
        slots = [memo("m", B * 3, []), handler("up", 1, [("n", now("n") + B + M + 1)], []), MORE]
        self.both(Part([("n", 4), ("b", 3)], slots, [M]))

    def test_what_does_the_same_is_right(self):
        # The handler catches n, yet for each n it leaves the same.
        slots = [handler("set", 2, [("n", N * 0 + passed()), ("b", (N * 2 + now("b")).rest(2))], []), MORE]
        self.both(Part([("n", 4), ("b", 2)], slots, [N]))
        slots = [handler("up", 1, [("n", now("n") + N * 4)], []), MORE]
        self.both(Part([("n", 4)], slots, [N]))
        slots = [handler("set", 1, [("n", N), ("n", 2)], []), MORE]
        self.both(Part([("n", 4)], slots, [N]))

    def test_a_memo_that_is_the_same_integer_is_right(self):
        self.both(Part([("n", 4)], [memo("m", N // 4, []), MORE], [M]))
        self.both(Part([("n", 4)], [memo("m", N // 2, []), memo("w", M.less(2), []), MORE], [W]).having("m", ["n"]))

    def test_a_memo_as_the_name_beside_a_slot(self):
        slots = [memo("m", N // 2, ["n"]), memo("w", M * 5, ["m"]), handler("set", 1, [("n", M + 1)], ["m"]), MORE]
        self.both(Part([("n", 6)], slots, [W]))


class Wrong(unittest.TestCase):
    def test_memos(self):
        part = Part([("n", 3)], [memo("m", N, []), MORE], [])
        self.assertEqual(wrong_row(part), [[("more", 0)]])
        self.assertEqual(wrong_row(part, True), [[("more", 0)]])
        self.assertEqual(wrong_row(part=part, together=False), [[("more", 0)]])

    def test_handlers(self):
        part = Part([("n", 3)], [handler("up", 1, [("n", N + 1)], [])], [])
        self.assertEqual(wrong_row(part), [[("up", 0)]])
        self.assertEqual(wrong_row(part, together=True), [[("up", 0)]])

    def test_a_handler_is_wrong_for_one_argument_alone(self):
        slots = [handler("up", 3, [("n", now("n") + B * passed().same(2))], []), FLIP]
        self.assertEqual(wrong_row(Part([("n", 3), ("b", 2)], slots, [])), [[("flip", 0)]])

    def test_a_handler_is_wrong_for_what_the_cells_never_hold(self):
        for worth in (now("n").same(2), now("n").same(3) * (1 - now("b"))):
            slots = [handler("put", 1, [("b", B * worth)], ["n"]), FLIP, handler("to", 2, [("n", passed())], [])]
            part = Part([("n", 4), ("b", 2)], slots, [N, B])
            self.assertEqual(wrong_row(part), [[("flip", 0)]])
            self.assertIsNone(wrong_row(part.having("put", ["b"]), True))
            row = [[("flip", 0)], [("put", 0)], [("to", 1)], [("flip", 0), ("put", 0)], [("put", 0)]]
            self.assertEqual(play(part, row), play_fresh(part, row))

    def test_a_handler_is_wrong_in_a_cell_that_is_not_shown(self):
        slots = [handler("keep", 1, [("d", N)], []), MORE]
        self.assertEqual(wrong_row(Part([("n", 3), ("d", 3)], slots, [N])), [[("more", 0)]])

    def test_the_first_event_in_order(self):
        slots = [handler("z", 1, [("b", 1)], []), handler("a", 3, [("n", passed())], []), memo("m", N * 2, []),
                 handler("x", 2, [("n", passed() + 1)], [])]
        part = Part([("n", 4), ("b", 2)], slots, [M])
        self.assertEqual(wrong_row(part), [[("a", 1)]])
        self.assertEqual(wrong_row(part, True), [[("a", 1)]])
        slots = [slots[0], memo("m", N * 2, []), slots[3], slots[1]]
        self.assertEqual(wrong_row(Part(part.cells, slots, [M])), [[("x", 0)]])

    def test_the_least_of_several_shortest_rows(self):
        # Two events lead to n * b; whichever comes first, the other one makes it old.
        slots = [memo("m", N * B, []), handler("zz", 1, [("b", 1)], []), handler("aa", 1, [("n", 1)], [])]
        part = Part([("n", 2), ("b", 2)], slots, [M])
        self.assertEqual(wrong_row(part), [[("zz", 0)], [("aa", 0)]])
        self.assertEqual(wrong_row(part, True), [[("zz", 0)], [("aa", 0)]])
        part = Part([("n", 2), ("b", 2)], [slots[0], slots[2], slots[1]], [M])
        self.assertEqual(wrong_row(part), [[("aa", 0)], [("zz", 0)]])

    def test_a_row_of_many_events(self):
        part = Part([("n", 16)], [memo("m", N.same(15), []), MORE], [M])
        self.assertEqual(wrong_row(part), [[("more", 0)]] * 15)
        self.assertEqual(wrong_row(part, True), [[("more", 0)]] * 15)

    def test_a_row_of_sixteen_events(self):
        # The memo turns at 14 to 15 and at 15 to 0; the memo beside it changes only at the first of them.
        slots = [memo("w", N.rest(15), ["n"]), memo("m", N.same(15), ["w"]), MORE]
        part = Part([("n", 16)], slots, [M])
        self.assertEqual(wrong_row(part), [[("more", 0)]] * 16)

    def test_only_one_name_is_left_out(self):
        slots = [memo("w", N + B, []), memo("m", (N * 2 + B).same(3) + W * 0, []), MORE, FLIP]
        full = Part([("n", 2), ("b", 2), ("d", 2)], slots, [M]).full()
        self.assertIsNone(wrong_row(full, True))
        for name in ("d", "w"):
            self.assertIsNone(wrong_row(full.having("m", [one for one in full["m"] if one != name]), True))
        part = full.having("w", ["b", "d"])
        self.assertEqual(wrong_row(part), [[("more", 0)]])
        part = full.having("m", ["n", "d"])
        self.assertEqual(wrong_row(part), [[("more", 0)], [("flip", 0)]])
        part = full.having("m", ["b", "d"])
        self.assertEqual(wrong_row(part), [[("flip", 0)], [("more", 0)]])

    def test_a_wrong_memo_stands_beside_a_right_slot(self):
        # Not the list of w is wrong, but that of m ahead of it.
        part = Part([("n", 3)], [memo("m", N, []), memo("w", M, ["m"]), MORE], [W])
        self.assertEqual(wrong_row(part), [[("more", 0)]])
        self.assertIsNone(wrong_row(part.having("m", ["n"])))
        self.assertIsNone(wrong_row(part.having("m", ["n"]).having("w", ["n"])))


class Together(unittest.TestCase):
    def test_right_but_not_right_together(self):
        # One event changes both cells; two of them within one batch change only n.
        both = handler("both", 1, [("n", now("n") + 1), ("b", ~now("b"))], [])
        part = Part([("n", 4), ("b", 2)], [memo("m", N, ["b"]), both], [M])
        self.assertIsNone(wrong_row(part))
        self.assertIsNone(wrong_row(part, False))
        self.assertEqual(wrong_row(part, True), [[("both", 0), ("both", 0)]])
        self.assertIsNone(wrong_row(part.having("m", ["n"]), True))

    def test_the_first_of_longer_batches(self):
        both = handler("both", 2, [("n", now("n") + 1), ("b", now("b") + 1)], [])
        part = Part([("n", 5), ("b", 3)], [memo("m", N.same(4), ["b"]), both], [M])
        self.assertIsNone(wrong_row(part))
        self.assertEqual(wrong_row(part, True), [[("both", 0)], [("both", 0), ("both", 0), ("both", 0)]])

    def test_batches_are_done_by_what_was_caught_once(self):
        # Within one batch b is put from n as it was caught ahead, so that n and b come apart.
        slots = [memo("m", N.same(2), ["b"]), handler("up", 1, [("b", N + 1), ("n", now("n") + 1)], ["n"])]
        part = Part([("n", 3), ("b", 3)], slots, [M])
        self.assertIsNone(wrong_row(part))
        up, row = ("up", 0), wrong_row(part, True)
        self.assertEqual(row, [[up], [up, up, up], [up]])
        self.assertNotEqual(play(part, row)[-1], play_fresh(part, row)[-1])

    def test_two_batches_are_ahead_of_one(self):
        slots = [memo("m", N & B, []), handler("one", 1, [("n", 1)], []), handler("two", 1, [("b", 1)], [])]
        part = Part([("n", 2), ("b", 2)], slots, [M])
        self.assertEqual(wrong_row(part, True), [[("one", 0)], [("two", 0)]])

    def test_one_batch_is_ahead_of_other_batches(self):
        # Done one by one, the second event sees n and puts 0; within a batch it does not see it.
        slots = [memo("m", N & B, []), handler("one", 1, [("n", 1)], []), handler("two", 1, [("b", ~N)], ["n"])]
        part = Part([("n", 2), ("b", 2)], slots, [M])
        self.assertEqual(wrong_row(part), [[("two", 0)], [("one", 0)]])
        self.assertEqual(wrong_row(part, True), [[("one", 0), ("two", 0)]])


class Answers(unittest.TestCase):
    def test_each_list_is_new(self):
        part = Part([("n", 16)], [memo("m", N.same(9), []), MORE], [number(1)])
        for together in (False, True):
            row = wrong_row(part, together)
            self.assertEqual(len({id(batch) for batch in row}), 9)
            for batch in row:
                batch.append("x")
            row.clear()
            self.assertEqual(wrong_row(part, together), [[("more", 0)]] * 9)


if __name__ == "__main__":
    unittest.main()
