"""The section elderruns/screens.py: handlers that are kept, and batches that are taken back."""

import unittest

from elderruns.errors import InvalidArgument, NothingToUndo
from elderruns.parts import Part, handler, memo
from elderruns.screens import Kept, Screen
from elderruns.values import named, now, passed

N, B, M = named("n"), named("b"), named("m")
SLOTS = [memo("m", N * 2, ["n"]), handler("up", 1, [("n", N + 1)], ["n"]),
         handler("set", 4, [("b", now("b") + N + passed())], ["b"]), handler("flip", 1, [("k", ~now("k"))], []),
         handler("late", 1, [("n", M + now("b"))], ["k"])]
PART = Part([("n", 6), ("b", 4), ("k", 2)], SLOTS, [N, B, M])


class Held(unittest.TestCase):
    def test_called_many_runs_later(self):
        screen = Screen(PART)
        held = screen["up"]
        for shown in ([1, 0, 2], [2, 0, 4], [3, 0, 6]):
            self.assertEqual(screen("up"), shown)
        self.assertEqual(held(), [1, 0, 2])
        self.assertEqual((screen.cells, screen.shown, screen.runs, held.run, screen["up"].run), ([1, 0, 0], [1, 0, 2], 5, 0, 4))

    def test_called_twice_and_in_turns(self):
        screen = Screen(PART)
        screen("up")
        first = screen["up"]
        self.assertEqual([first(), first(), screen("up"), first()], [[2, 0, 4], [2, 0, 4], [3, 0, 6], [2, 0, 4]])
        other = screen["up"]
        self.assertEqual([other(), first(), other()], [[3, 0, 6], [2, 0, 4], [3, 0, 6]])
        self.assertEqual((first.run, other.run), (1, 5))

    def test_arguments(self):
        screen = Screen(PART)
        held = screen["set"]
        self.assertEqual([held(), held(0), held(argument=2), held(3), held(argument=0)],
                         [[0, 0, 0], [0, 0, 0], [0, 2, 0], [0, 1, 0], [0, 1, 0]])

    def test_what_the_cells_hold_now(self):
        screen = Screen(PART)
        screen("up")
        screen("set", 1)
        held = screen["set"]
        self.assertEqual((screen.shown, held.run), ([1, 1, 2], 2))
        self.assertEqual([screen("up"), screen("set", 0), held(0)], [[2, 1, 4], [2, 2, 4], [2, 3, 4]])

    def test_a_caught_memo(self):
        screen = Screen(PART)
        screen("up")
        screen("flip")
        held = screen["late"]
        self.assertEqual([screen("up"), screen("up"), screen("set", 1), held()], [[2, 0, 4], [3, 0, 6], [3, 1, 6], [3, 1, 6]])
        self.assertEqual([screen("up"), screen("up"), held(), screen["m"]], [[4, 1, 8], [5, 1, 10], [3, 1, 6], 6])

    def test_it_is_the_kept_one_that_an_event_calls(self):
        screen, other = Screen(PART), Screen(PART)
        for name in ("up", "flip", "up", "late", "set", "late", "flip", "late"):
            self.assertEqual(screen(name), other[name]())
            self.assertEqual(screen, other)

    def test_it_changes_its_own_screen_alone(self):
        one, other = Screen(PART), Screen(PART)
        held = one["up"]
        other("up")
        self.assertEqual([held(), one.cells, other.cells, other.runs], [[1, 0, 2], [1, 0, 0], [1, 0, 0], 2])
        other["up"]()
        self.assertEqual([held(), other.cells, one.cells], [[1, 0, 2], [2, 0, 0], [1, 0, 0]])

    def test_its_run_was_taken_back(self):
        screen = Screen(PART)
        screen("up")
        screen("up")
        held = screen["up"]
        screen.undo()
        screen.undo()
        self.assertEqual([held.run, held(), held.run, screen.runs], [2, [3, 0, 6], 2, 2])
        self.assertEqual([screen["up"].run, screen("up"), screen.undo(), screen.undo(), screen.cells],
                         [1, [4, 0, 8], None, None, [0, 0, 0]])
        self.assertEqual([held(), held.run], [[3, 0, 6], 2])

    def test_wrong_arguments(self):
        screen = Screen(PART)
        held, single = screen["set"], screen["up"]
        screen("up")
        for one, arguments in ((held, (4, 5, -1, -4, 1000, 10 ** 20)), (single, (1, -1, 7))):
            for argument in arguments:
                for call in (lambda: one(argument), lambda: one(argument=argument)):
                    with self.assertRaises(InvalidArgument) as caught:
                        call()
                    self.assertIs(type(caught.exception), InvalidArgument)
                    self.assertEqual(caught.exception.value, argument)
                    self.assertEqual((screen.runs, screen.cells, screen.shown), (2, [1, 0, 0], [1, 0, 2]))
        screen.undo()
        with self.assertRaises(InvalidArgument):
            held(4)
        self.assertEqual((held.run, screen.runs, screen), (0, 1, Screen(PART)))
        with self.assertRaises(NothingToUndo):
            screen.undo()


class Made(unittest.TestCase):
    """The run in which a handler was made."""

    def test_made_at_once_and_kept_over_several_runs(self):
        screen = Screen(PART)
        self.assertEqual([screen[name].run for name in ("up", "set", "flip", "late")], [0, 0, 0, 0])
        screen("up")
        self.assertEqual([screen[name].run for name in ("up", "set", "flip", "late")], [1, 0, 0, 0])
        screen("flip")
        self.assertEqual([screen[name].run for name in ("up", "set", "flip", "late")], [1, 0, 0, 2])
        screen.batch([("set", 1), ("up", 0)])
        self.assertEqual([screen[name].run for name in ("up", "set", "flip", "late")], [3, 3, 0, 2])
        screen("flip")
        screen("flip")
        self.assertEqual([screen[name].run for name in ("up", "set", "flip", "late")], [3, 3, 0, 5])

    def test_behind_batches_that_were_taken_back(self):
        screen = Screen(PART)
        screen("up")
        screen("up")
        second = screen["up"]
        screen.undo()
        first = screen["up"]
        self.assertEqual((first.run, second.run), (1, 2))
        screen("flip")
        screen("up")
        third = screen["up"]
        self.assertEqual((first.run, second.run, third.run, screen["late"].run), (1, 2, 3, 2))
        screen.undo()
        screen.undo()
        screen("up")
        self.assertEqual((first.run, second.run, third.run, screen["up"].run, screen["late"].run), (1, 2, 3, 2, 0))

    def test_kept_behind_what_was_taken_back(self):
        screen = Screen(PART)
        screen("up")
        screen("flip")
        screen.undo()
        screen("set", 1)
        self.assertEqual([screen[name].run for name in ("up", "set", "flip", "late")], [1, 2, 0, 0])

    def test_a_batch_of_a_held_handler_counts(self):
        screen = Screen(PART)
        held = screen["flip"]
        held()
        held()
        screen("up")
        self.assertEqual([screen[name].run for name in ("up", "set", "flip", "late")], [3, 0, 0, 2])

    def test_slots_that_are_kept_stay_as_they_are(self):
        # Behind two runs n stands for what it stood for, so the handler of the first run is still kept.
        slots = [handler("turn", 1, [("n", ~now("n"))], []), handler("say", 1, [("b", N)], ["n"]), memo("m", B, ["n"])]
        screen = Screen(Part([("n", 2), ("b", 2)], slots, [M]))
        say = screen["say"]
        screen("turn")
        other = screen["say"]
        screen("turn")
        self.assertEqual((say.run, other.run, screen["say"].run, say == screen["say"], say == other), (0, 1, 2, True, False))
        screen("say")
        self.assertEqual((screen["say"].run, say.run), (2, 0))


class Undo(unittest.TestCase):
    def told(self, screen):
        """Return all that a screen tells."""
        return (screen.runs, screen.cells, screen.shown, screen.is_right, screen["m"],
                [screen[name].run for name in ("up", "set", "flip", "late")])

    def test_one_by_one_to_the_first_run_and_again(self):
        screen, held, twin = Screen(PART), [], Screen(PART)
        held.append(screen["up"])
        doings = [lambda: screen("up"), lambda: screen.batch([("up", 0), ("set", 2)]), lambda: screen("flip"),
                  lambda: held[0](), lambda: screen.batch([("late", 0), ("late", 0), ("flip", 0)]), lambda: screen["set"](3),
                  lambda: held[0](argument=0)]
        for _ in range(2):
            past = []
            for do in doings:
                past.append(self.told(screen))
                shown = do()
                self.assertEqual(shown, screen.shown)
            last = self.told(screen)
            self.assertEqual(last[0], 8)
            for awaited in reversed(past):
                self.assertIs(screen.undo(), None)
                self.assertEqual(self.told(screen), awaited)
            self.assertEqual(screen, twin)
            for do in doings:
                do()
            self.assertEqual(self.told(screen), last)
            for _ in doings:
                screen.undo()
        self.assertEqual(self.told(screen), (1, [0, 0, 0], [0, 0, 0], True, 0, [0, 0, 0, 0]))

    def test_nothing_to_undo(self):
        screen = Screen(PART)
        for _ in range(2):
            with self.assertRaises(NothingToUndo) as caught:
                screen.undo()
            self.assertIs(type(caught.exception), NothingToUndo)
            self.assertEqual(caught.exception.value, 0)
            self.assertEqual(self.told(screen), (1, [0, 0, 0], [0, 0, 0], True, 0, [0, 0, 0, 0]))
        screen("up")
        screen.undo()
        with self.assertRaises(NothingToUndo) as caught:
            screen.undo()
        self.assertEqual(caught.exception.value, 0)
        self.assertEqual(screen("up"), [1, 0, 2])

    def test_right_behind_what_was_taken_back(self):
        slots = [memo("m", N, ["b"]), handler("up", 1, [("n", now("n") + 1)], []), handler("flip", 1, [("b", ~now("b"))], [])]
        screen, found = Screen(Part([("n", 3), ("b", 2)], slots, [M])), []
        for name in ("up", None, "flip", "up", "up", "flip", None, None, None, None):
            if name is None:
                screen.undo()
            else:
                screen(name)
            found.append((screen.is_right, screen["m"]))
        self.assertEqual(found, [(False, 0), (True, 0), (True, 0), (False, 0), (False, 0), (True, 2), (False, 0), (False, 0),
                                 (True, 0), (True, 0)])

    def test_what_was_made_is_made_again(self):
        screen = Screen(PART)
        screen("up")
        one = screen["up"]
        screen.undo()
        self.assertEqual(screen["up"].run, 0)
        screen("up")
        self.assertEqual((screen["up"] == one, screen["up"].run, isinstance(one, Kept)), (True, 1, True))
        self.assertEqual(one(), [2, 0, 4])


if __name__ == "__main__":
    unittest.main()
