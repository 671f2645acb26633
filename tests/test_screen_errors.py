"""Promise 3 on screens: each error with its value and in its order, behind which nothing has been done."""

import copy
import unittest

from elderruns.errors import EmptyBatch, InvalidArgument, NothingToUndo, RunError, UnknownHandler, UnknownName
from elderruns.parts import Part, handler, memo
from elderruns.screens import Screen
from elderruns.values import named, now, passed

N, M = named("n"), named("m")
PART = Part([("n", 5)], [memo("m", N, []), handler("up", 2, [("n", now("n") + passed() + 1)], []), handler("end", 1, [], ["n"])],
            [N, M])


class Errors(unittest.TestCase):
    def due(self, error, value, *calls):
        """Check that an error is raised by some calls on a new screen, and on one with a batch behind it."""
        for ahead in (0, 1, 2):
            for call in calls:
                screen, twin = Screen(PART), Screen(PART)
                held = screen["up"]
                for _ in range(ahead):
                    screen("up", 1)
                    twin("up", 1)
                told = (screen.runs, screen.cells, screen.shown, screen["m"], screen.is_right, screen["end"].run, held.run)
                with self.assertRaises(RunError) as caught:
                    call(screen)
                self.assertIs(type(caught.exception), error)
                self.assertEqual(caught.exception.value, value)
                self.assertEqual((screen.runs, screen.cells, screen.shown, screen["m"], screen.is_right, screen["end"].run,
                                  held.run), told)
                self.assertEqual(screen, twin)
                for _ in range(ahead):
                    screen.undo()
                with self.assertRaises(NothingToUndo):
                    screen.undo()
                self.assertEqual((screen.cells, screen("up"), held(1)), ([0], [1, 0], [3, 0]))

    def wrong_batch(self, error, value, events):
        """Check that an error is raised for a batch, and that its list stays as it is."""
        before = copy.deepcopy(events)
        self.due(error, value, lambda screen: screen.batch(events), lambda screen: screen.batch(events=events))
        self.assertEqual(events, before)

    def test_calls(self):
        for name in ("m", "n", "x", "", "Up", "upp"):
            self.due(UnknownHandler, name, lambda screen: screen(name), lambda screen: screen(name, 0),
                     lambda screen: screen(name, 9), lambda screen: screen(argument=-1, name=name))
        for argument in (2, 3, -1, -2, 1000, 10 ** 20):
            self.due(InvalidArgument, argument, lambda screen: screen("up", argument),
                     lambda screen: screen(argument=argument, name="up"), lambda screen: screen("up", argument=argument))
        self.due(InvalidArgument, 1, lambda screen: screen("end", 1))

    def test_batches(self):
        self.wrong_batch(EmptyBatch, 0, [])
        for name in ("m", "n", "x", ""):
            self.wrong_batch(UnknownHandler, name, [(name, 0)])
            self.wrong_batch(UnknownHandler, name, [(name, 7)])
        for argument in (2, -1, 1000):
            self.wrong_batch(InvalidArgument, argument, [("up", argument)])

    def test_a_wrong_event_at_any_place(self):
        for place in range(4):
            for wrong, error, value in ((("x", 0), UnknownHandler, "x"), (("m", -1), UnknownHandler, "m"),
                                        (("up", 2), InvalidArgument, 2), (("end", -1), InvalidArgument, -1)):
                events = [("up", 0), ("end", 0), ("up", 1)]
                events.insert(place, wrong)
                self.wrong_batch(error, value, events)

    def test_the_first_wrong_event(self):
        self.wrong_batch(UnknownHandler, "x", [("x", -1), ("up", 9)])
        self.wrong_batch(InvalidArgument, 9, [("up", 9), ("x", -1)])
        self.wrong_batch(InvalidArgument, 5, [("up", 0), ("end", 5), ("up", 7), ("x", 0)])
        self.wrong_batch(UnknownHandler, "y", [("up", 0), ("y", 5), ("up", 7), ("x", 0)])
        self.wrong_batch(UnknownHandler, "n", [("up", 1), ("up", 1), ("n", 2), ("m", 0)])

    def test_brackets(self):
        for name in ("n", "x", "", "Up", "mm"):
            self.due(UnknownName, name, lambda screen: screen[name])

    def test_held_handlers(self):
        for argument in (2, -1, 1000, -10 ** 20):
            self.due(InvalidArgument, argument, lambda screen: screen["up"](argument),
                     lambda screen: screen["up"](argument=argument))
        self.due(InvalidArgument, 1, lambda screen: screen["end"](1))
        self.due(InvalidArgument, -1, lambda screen: screen["end"](-1))

    def test_a_right_batch_behind_a_wrong_one(self):
        screen = Screen(PART)
        for wrong in ([("up", 1), ("x", 0)], [], [("up", 2)]):
            with self.assertRaises(RunError):
                screen.batch(wrong)
            self.assertEqual(screen.batch([("up", 1), ("up", 0)]), [3, 0])
            self.assertEqual((screen.runs, screen.undo(), screen.cells), (2, None, [0]))


if __name__ == "__main__":
    unittest.main()
