"""Promises 5 and 6: runs, what is kept and made in them, events, batches and rows."""

import copy
import unittest

from drawn import drawn
from elderruns.errors import EmptyBatch, InvalidArgument, UnknownHandler
from elderruns.parts import Part, handler, memo
from elderruns.plays import makings, play, play_fresh
from elderruns.values import named, now, passed

N, B, M, W = named("n"), named("b"), named("m"), named("w")
PLAYS = (play, play_fresh, makings)


def single(*events):
    """Return the plain row of some events."""
    return [[event] for event in events]


class Memos(unittest.TestCase):
    def test_the_first_run_is_ahead_of_the_row(self):
        part = Part([("n", 3)], [memo("m", N + 5, []), handler("up", 1, [("n", N + 1)], ["n"])], [M, N, 7])
        self.assertEqual(play(part, []), [[5, 0, 7]])
        self.assertEqual(play_fresh(part, []), [[5, 0, 7]])
        self.assertEqual(makings(part, []), [["m", "up"]])

    def test_a_list_without_the_name_that_changes(self):
        slots = [memo("m", N + 10, ["b"]), handler("up", 1, [("n", now("n") + 1)], []),
                 handler("flip", 1, [("b", ~now("b"))], [])]
        part = Part([("n", 5), ("b", 2)], slots, [M, N])
        row = single(("up", 0), ("up", 0), ("flip", 0), ("up", 0), ("flip", 0))
        self.assertEqual(play(part, row), [[10, 0], [10, 1], [10, 2], [12, 2], [12, 3], [13, 3]])
        self.assertEqual(play_fresh(part, row), [[10, 0], [11, 1], [12, 2], [12, 2], [13, 3], [13, 3]])
        self.assertEqual(makings(part, row), [["m", "up", "flip"], [], [], ["m"], [], ["m"]])

    def test_made_even_if_the_integer_stays(self):
        slots = [memo("m", N * 0, ["n"]), memo("w", M, ["m"]), handler("up", 1, [("n", now("n") + 1)], [])]
        part = Part([("n", 3)], slots, [W])
        self.assertEqual(makings(part, single(("up", 0), ("up", 0))), [["m", "w", "up"], ["m"], ["m"]])

    def test_memos_of_memos(self):
        slots = [memo("half", N // 2, ["n"]), memo("m", named("half") * 10 + N, ["half"]), memo("w", M + N, ["m"]),
                 handler("up", 1, [("n", now("n") + 1)], [])]
        part = Part([("n", 6)], slots, [named("half"), M, W])
        row = single(("up", 0), ("up", 0), ("up", 0), ("up", 0))
        self.assertEqual(play(part, row), [[0, 0, 0], [0, 0, 0], [1, 12, 14], [1, 12, 14], [2, 24, 28]])
        self.assertEqual(play_fresh(part, row), [[0, 0, 0], [0, 1, 2], [1, 12, 14], [1, 13, 16], [2, 24, 28]])
        self.assertEqual(makings(part, row), [["half", "m", "w", "up"], ["half"], ["half", "m", "w"], ["half"],
                                              ["half", "m", "w"]])

    def test_an_old_memo_is_what_its_name_stands_for(self):
        slots = [memo("m", N, []), memo("w", M + 1, ["m", "n"]), handler("up", 1, [("n", now("n") + 1)], [])]
        part = Part([("n", 4)], slots, [W, M + N])
        self.assertEqual(play(part, single(("up", 0), ("up", 0))), [[1, 0], [1, 1], [1, 2]])
        self.assertEqual(makings(part, single(("up", 0), ("up", 0))), [["m", "w", "up"], ["w"], ["w"]])

    def test_a_change_within_a_batch_that_is_taken_back(self):
        slots = [memo("m", N, ["n"]), handler("up", 1, [("n", now("n") + 1)], [])]
        part = Part([("n", 2)], slots, [M])
        self.assertEqual(makings(part, [[("up", 0), ("up", 0)], [("up", 0)]]), [["m", "up"], [], ["m"]])


class Events(unittest.TestCase):
    def test_a_kept_handler_does_what_it_caught(self):
        part = Part([("n", 5)], [handler("up", 1, [("n", N + 1)], [])], [N])
        row = single(("up", 0), ("up", 0), ("up", 0))
        self.assertEqual(play(part, row), [[0], [1], [1], [1]])
        self.assertEqual(play_fresh(part, row), [[0], [1], [2], [3]])
        self.assertEqual(makings(part, row), [["up"], [], [], []])

    def test_all_cells_and_memos_ahead_are_caught_at_once(self):
        # The handler is made anew when b changes, and catches then what it has no list for.
        slots = [memo("m", N * 2, ["n"]), handler("go", 1, [("n", N + M + 1)], ["b"]),
                 handler("flip", 1, [("b", ~now("b"))], [])]
        part = Part([("n", 8), ("b", 2)], slots, [N])
        row = single(("go", 0), ("go", 0), ("flip", 0), ("go", 0), ("go", 0), ("flip", 0), ("go", 0))
        self.assertEqual(play(part, row), [[0], [1], [1], [1], [4], [4], [4], [5]])
        self.assertEqual(play_fresh(part, row), [[0], [1], [4], [4], [5], [0], [0], [1]])

    def test_an_old_memo_is_caught(self):
        slots = [memo("m", N, []), handler("go", 1, [("n", M + N + 1)], ["n"])]
        part = Part([("n", 9)], slots, [N])
        row = single(("go", 0), ("go", 0), ("go", 0))
        self.assertEqual(play(part, row), [[0], [1], [2], [3]])
        self.assertEqual(play_fresh(part, row), [[0], [1], [3], [7]])

    def test_a_batch_is_done_by_the_handlers_of_one_run(self):
        slots = [handler("up", 1, [("n", N + 1)], ["n"]), handler("more", 1, [("n", now("n") + 1)], [])]
        part = Part([("n", 6)], slots, [N])
        row = [[("up", 0), ("up", 0)], [("more", 0), ("more", 0)], [("more", 0), ("up", 0)], [("up", 0), ("more", 0)]]
        self.assertEqual(play(part, row), [[0], [1], [3], [4], [0]])
        self.assertEqual(play_fresh(part, row), play(part, row))
        self.assertEqual(makings(part, row), [["up", "more"], ["up"], ["up"], ["up"], ["up"]])
        self.assertEqual(play(part, [one for batch in row for one in [[event] for event in batch]]),
                         [[0], [1], [2], [3], [4], [5], [0], [1], [2]])

    def test_now_is_behind_the_puts_before(self):
        puts = [("n", now("n") + 1), ("b", now("n") * 2), ("n", now("n") + now("b")), ("b", N + now("b"))]
        part = Part([("n", 7), ("b", 5)], [handler("go", 1, puts, ["n", "b"])], [N, B])
        self.assertEqual(play(part, [[("go", 0)]]), [[0, 0], [3, 2]])
        self.assertEqual(play(part, [[("go", 0), ("go", 0)]]), [[0, 0], [0, 3]])
        self.assertEqual(play(part, [[("go", 0)], [("go", 0)]]), [[0, 0], [3, 2], [0, 1]])

    def test_now_is_behind_the_remainder(self):
        part = Part([("n", 2), ("b", 9)], [handler("go", 1, [("n", 5), ("b", now("n"))], [])], [N, B])
        self.assertEqual(play(part, [[("go", 0)]]), [[0, 0], [1, 1]])

    def test_puts_by_the_remainder(self):
        slots = [handler("down", 1, [("n", N - 1)], ["n"]), handler("far", 3, [("n", passed() * 1000 - 1001)], [])]
        part = Part([("n", 3)], slots, [N])
        self.assertEqual(play(part, single(("down", 0), ("down", 0), ("down", 0), ("down", 0))),
                         [[0], [2], [1], [0], [2]])
        self.assertEqual(play(part, single(("far", 0), ("far", 1), ("far", 2))), [[0], [1], [2], [0]])

    def test_arguments(self):
        slots = [handler("set", 4, [("n", passed())], []), handler("add", 2, [("n", now("n") + passed() * 3)], [])]
        part = Part([("n", 9)], slots, [N])
        row = [[("set", 3), ("add", 1)], [("add", 0)], [("add", 1), ("add", 1), ("set", 2), ("add", 1)]]
        self.assertEqual(play(part, row), [[0], [6], [6], [5]])

    def test_a_handler_without_puts(self):
        part = Part([("n", 2)], [handler("wait", 1, [], ["n"])], [N])
        self.assertEqual(play(part, [[("wait", 0), ("wait", 0)]]), [[0], [0]])
        self.assertEqual(makings(part, [[("wait", 0)]]), [["wait"], []])


class Little(unittest.TestCase):
    def test_nothing_at_all(self):
        part = Part([], [], [])
        for ask in PLAYS:
            self.assertEqual(ask(part, []), [[]])

    def test_without_cells(self):
        part = Part([], [memo("m", 4, []), handler("wait", 2, [], ["m"])], [M + 1, -3])
        row = [[("wait", 0)], [("wait", 1), ("wait", 0)]]
        self.assertEqual(play(part, row), [[5, -3]] * 3)
        self.assertEqual(play_fresh(part, row), [[5, -3]] * 3)
        self.assertEqual(makings(part, row), [["m", "wait"], [], []])

    def test_without_slots_and_shown_values(self):
        self.assertEqual(play(Part([("n", 3)], [], [N, 1]), []), [[0, 1]])
        part = Part([("n", 3)], [handler("up", 1, [("n", 1)], ["n"])], [])
        self.assertEqual(play(part, single(("up", 0), ("up", 0))), [[], [], []])
        self.assertEqual(makings(part, single(("up", 0), ("up", 0))), [["up"], ["up"], []])

    def test_a_cell_of_size_one(self):
        part = Part([("n", 1)], [handler("up", 1, [("n", now("n") + 1)], [])], [N])
        self.assertEqual(play(part, single(("up", 0), ("up", 0))), [[0], [0], [0]])


class Errors(unittest.TestCase):
    part = Part([("n", 3)], [memo("m", N, []), handler("up", 2, [("n", N + 1)], []), handler("end", 1, [], [])], [N])

    def due(self, error, value, row):
        for ask in PLAYS:
            for call in (lambda: ask(self.part, row), lambda: ask(part=self.part, row=row)):
                before = copy.deepcopy(row)
                with self.assertRaises(error) as caught:
                    call()
                self.assertIs(type(caught.exception), error)
                self.assertEqual(caught.exception.value, value)
                self.assertEqual(row, before)

    def test_each_error(self):
        self.due(EmptyBatch, 0, [[]])
        self.due(EmptyBatch, 2, [[("up", 0)], [("up", 1)], [], [("up", 0)], []])
        for name in ("m", "n", "x", "", "Up", "upp"):
            self.due(UnknownHandler, name, [[("up", 0)], [("end", 0), (name, 0)]])
        for argument in (2, 3, -1, -2, 1000, 10 ** 20):
            self.due(InvalidArgument, argument, [[("up", 1), ("up", argument)]])
        self.due(InvalidArgument, 1, [[("end", 1)]])

    def test_the_order(self):
        self.due(UnknownHandler, "x", [[("x", -1)]])
        self.due(UnknownHandler, "x", [[("x", 5), ("up", 7)], []])
        self.due(InvalidArgument, 7, [[("up", 7), ("x", 5)], []])
        self.due(EmptyBatch, 0, [[], [("x", 0)], [("up", 9)]])
        self.due(EmptyBatch, 1, [[("up", 0)], [], [("x", 0)]])
        self.due(UnknownHandler, "y", [[("up", 0)], [("y", 9)], [], [("x", 0)]])
        self.due(InvalidArgument, 2, [[("end", 0)], [("up", 0), ("up", 2), ("x", 0)], []])


class Unchanged(unittest.TestCase):
    slots = [memo("m", N, []), handler("up", 2, [("n", N + passed() + 1)], ["n"])]

    def test_rows_and_parts_stay_as_they_were(self):
        part, row = Part([("n", 5)], self.slots, [N, M]), [[("up", 0), ("up", 1)], [("up", 0)]]
        kept = copy.deepcopy(row)
        for ask in PLAYS:
            self.assertEqual(ask(part, row), ask(row=row, part=part))
            self.assertEqual(row, kept)
        self.assertEqual(part, Part([("n", 5)], self.slots, [N, M]))

    def test_told_lists_and_rows_that_change_afterwards(self):
        part, row = Part([("n", 5)], self.slots, [N, M]), [[("up", 1)], [("up", 0)]]
        for ask, awaited in ((play, [[0, 0], [2, 0], [3, 0]]), (play_fresh, [[0, 0], [2, 2], [3, 3]]),
                             (makings, [["m", "up"], ["up"], ["up"]])):
            found = ask(part, row)
            self.assertEqual(found, awaited)
            self.assertEqual(len({id(one) for one in found}), 3)
            for one in found:
                one.append("x")
            found.clear()
            self.assertEqual(ask(part, row), awaited)
        row[0].clear()
        row.pop()
        self.assertEqual(play(part, [[("up", 1)], [("up", 0)]]), [[0, 0], [2, 0], [3, 0]])

    def test_slots_in_several_parts(self):
        one, other = Part([("n", 5)], self.slots, [N]), Part([("n", 3), ("b", 2)], self.slots, [N, B])
        row = single(("up", 1), ("up", 1))
        self.assertEqual((play(one, row), play(other, row)), ([[0], [2], [4]], [[0, 0], [2, 0], [1, 0]]))
        self.assertEqual(play(one, row), [[0], [2], [4]])


class Drawn(unittest.TestCase):
    def test_beside_runs_by_the_letter(self):
        for plan, drawing in drawn(0, 250):
            part = plan.built()
            for _ in range(4):
                row = drawing.row(plan)
                runs, fresh = plan.runs(row), plan.runs(row, True)
                self.assertEqual(play(part, row), [run[3] for run in runs])
                self.assertEqual(play_fresh(part, row), [run[3] for run in fresh])
                self.assertEqual(makings(part, row), [run[2] for run in runs])

    def test_forty_events(self):
        for plan, drawing in drawn(250, 280):
            if plan.events:
                part, row = plan.built(), [[drawing.draw.choice(plan.events)] for _ in range(40)]
                self.assertEqual(play(part, row), [run[3] for run in plan.runs(row)])
                self.assertEqual(play(part, [sum(row, [])]), [run[3] for run in plan.runs([sum(row, [])])])


if __name__ == "__main__":
    unittest.main()
