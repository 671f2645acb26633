"""Promises 5 to 7 and the section elderruns/screens.py: what is run on a screen, shown by it, and right on it."""

import time
import unittest

from beside import Plan
from drawn import drawn
from elderruns.errors import UnknownName
from elderruns.lists import tightened
from elderruns.parts import Part, handler, memo
from elderruns.plays import makings, play, play_fresh, wrong_row
from elderruns.screens import Kept, Screen
from elderruns.values import named, now, passed
from shadow import Shadow, told_by

N, B, K, M = named("n"), named("b"), named("k"), named("m")


def counting(names):
    """Return a part that counts, with a list beside its memo."""
    slots = [memo("m", N * 10, names), handler("up", 1, [("n", N + 1)], ["n"]),
             handler("more", 3, [("n", now("n") + passed() + 1)], []), handler("flip", 1, [("b", ~now("b"))], [])]
    return Part([("n", 5), ("b", 2)], slots, [M, N + B, 7])


def marked(plan):
    """Return a plan with a cell that is 1 only behind an event whose handler caught something else than there is."""
    name = plan.names[0]
    slots = [("on", "late", 1, [("q", ("~", ("=", ("named", name), ("now", name))))], [name]),
             ("memo", "old", ("+", ("named", "q"), ("named", name)), [name])]
    return Plan(plan.cells + [("q", 2)], plan.slots + slots, plan.shown + [("named", "old")])


class Runs(unittest.TestCase):
    def test_the_first_run(self):
        for screen in (Screen(counting([])), Screen(part=counting([]))):
            self.assertEqual((screen.cells, screen.shown, screen["m"], screen.runs), ([0, 0], [0, 0, 7], 0, 1))
            self.assertIs(screen.is_right, True)
            self.assertIsInstance(screen["up"], Kept)
            self.assertEqual(screen["up"].run, 0)

    def test_calls_and_batches_of_one_event(self):
        one, other, last = Screen(counting(["n"])), Screen(counting(["n"])), Screen(counting(["n"]))
        for name, argument, shown in (("up", 0, [10, 1, 7]), ("more", 2, [40, 4, 7]), ("flip", 0, [40, 5, 7]),
                                      ("more", 1, [10, 2, 7]), ("up", 0, [20, 3, 7])):
            self.assertEqual(one(name, argument), shown)
            self.assertEqual(other.batch([(name, argument)]), shown)
            self.assertEqual(last(argument=argument, name=name), shown)
            for screen in (one, other, last):
                self.assertEqual((screen.shown, screen["m"]), (shown, shown[0]))
            self.assertEqual((one == other, one == last), (True, True))
        self.assertEqual((one.runs, one.cells), (6, [2, 1]))

    def test_the_argument_left_out(self):
        screen, other = Screen(counting(["n"])), Screen(counting(["n"]))
        self.assertEqual(screen("more"), [10, 1, 7])
        self.assertEqual(other(name="more"), [10, 1, 7])
        self.assertEqual(screen("more", argument=1), [30, 3, 7])
        self.assertEqual(other("more", 1), [30, 3, 7])
        self.assertEqual(screen.batch(events=[("more", 0)]), [40, 4, 7])

    def test_a_batch_is_done_by_the_handlers_of_one_run(self):
        screen = Screen(counting(["n"]))
        self.assertEqual(screen.batch([("up", 0), ("up", 0)]), [10, 1, 7])
        self.assertEqual(screen.runs, 2)
        self.assertEqual(screen.batch([("more", 1), ("up", 0)]), [20, 2, 7])
        self.assertEqual(screen.batch([("up", 0), ("more", 0), ("flip", 0), ("flip", 0)]), [40, 4, 7])
        self.assertEqual(screen.batch([("more", 2), ("more", 2)]), [0, 0, 7])
        self.assertEqual((screen.cells, screen.runs), ([0, 0], 5))

    def test_now_is_behind_the_puts_and_events_before(self):
        puts = [("n", now("n") + 1), ("b", now("n") * 2), ("n", now("n") + now("b")), ("b", N + now("b"))]
        part = Part([("n", 7), ("b", 5)], [handler("go", 1, puts, ["n", "b"])], [N, B])
        screen = Screen(part)
        self.assertEqual(screen("go"), [3, 2])
        self.assertEqual(screen("go"), [0, 1])
        self.assertEqual(Screen(part).batch([("go", 0), ("go", 0)]), [0, 3])

    def test_old_values_are_shown(self):
        screen = Screen(counting(["b"]))
        self.assertEqual([screen("more"), screen("more"), screen("flip"), screen("more"), screen("flip")],
                         [[0, 1, 7], [0, 2, 7], [20, 3, 7], [20, 4, 7], [30, 3, 7]])
        self.assertEqual(screen["m"], 30)

    def test_old_handlers_do_what_they_caught(self):
        slots = [memo("m", N * 2, ["n"]), handler("go", 1, [("n", N + M + 1)], ["b"]),
                 handler("flip", 1, [("b", ~now("b"))], [])]
        screen = Screen(Part([("n", 8), ("b", 2)], slots, [N]))
        self.assertEqual([screen(name) for name in ("go", "go", "flip", "go", "go", "flip", "go")],
                         [[1], [1], [1], [4], [4], [4], [5]])

    def test_old_memos_are_what_their_names_stand_for(self):
        slots = [memo("m", N, []), memo("w", M + 1, ["m", "n"]), handler("up", 1, [("n", now("n") + M + 1)], ["m"])]
        screen = Screen(Part([("n", 4)], slots, [named("w"), M + N]))
        self.assertEqual([screen("up"), screen("up"), screen["w"], screen["m"]], [[1, 1], [1, 2], 1, 0])

    def test_nothing_at_all(self):
        screen = Screen(Part([], [], []))
        self.assertEqual((screen.cells, screen.shown, screen.is_right, screen.runs), ([], [], True, 1))
        self.assertEqual(screen, Screen(Part([], [], [])))

    def test_without_cells(self):
        screen = Screen(Part([], [memo("m", 4, []), handler("wait", 2, [], ["m"])], [M + 1, -3]))
        self.assertEqual([screen("wait"), screen("wait", 1), screen["wait"](1)], [[5, -3]] * 3)
        self.assertEqual((screen.cells, screen["m"], screen["wait"].run, screen.runs, screen.is_right), ([], 4, 0, 4, True))

    def test_without_shown_values_and_without_slots(self):
        screen = Screen(Part([("n", 3)], [handler("up", 1, [("n", now("n") + 1)], [])], []))
        self.assertEqual([screen("up"), screen["up"](), screen.shown, screen.cells], [[], [], [], [2]])
        screen = Screen(Part([("n", 3)], [], [N, 1]))
        self.assertEqual((screen.shown, screen.cells, screen.runs, screen.is_right), ([0, 1], [0], 1, True))

    def test_names_in_brackets(self):
        screen = Screen(counting([]))
        for name in ("n", "b", "x", "", "M", "upp"):
            with self.assertRaises(UnknownName) as caught:
                screen[name]
            self.assertEqual(caught.exception.value, name)

    def test_a_hundred_calls(self):
        begun, part = time.perf_counter(), counting(["n"])
        screen = Screen(part)
        held = screen["up"]
        for at in range(40):
            self.assertEqual(screen("more", at % 3)[1], screen.shown[1])
            self.assertIs(screen.is_right, True)
        self.assertEqual(held(), [10, 1, 7])
        for _ in range(41):
            screen.undo()
        self.assertEqual(screen, Screen(part))
        self.assertLess(time.perf_counter() - begun, 1)


class Right(unittest.TestCase):
    def test_memos(self):
        screen, found = Screen(counting(["b"])), []
        for name in ("flip", "more", "flip", "more", "more", "more", "more", "more"):
            screen(name)
            found.append((screen.cells[0], screen.is_right))
        self.assertEqual(found, [(0, True), (1, False), (1, True), (2, False), (3, False), (4, False), (0, False), (1, True)])

    def test_handlers(self):
        part = Part([("n", 3)], [handler("up", 1, [("n", N + 1)], [])], [])
        screen = Screen(part)
        self.assertIs(screen.is_right, True)
        screen("up")
        self.assertIs(screen.is_right, False)
        screen.undo()
        self.assertIs(screen.is_right, True)

    def test_a_handler_that_does_the_same_although_it_is_old(self):
        slots = [handler("zero", 1, [("n", N - N)], []), handler("set", 2, [("n", N * 0 + passed())], []),
                 handler("cut", 1, [("n", N // 2 + 1)], [])]
        screen = Screen(Part([("n", 2)], slots, [N]))
        self.assertEqual([screen("set", 1), screen.is_right, screen["set"].run], [[1], True, 0])
        self.assertEqual([screen("cut"), screen.is_right], [[1], True])

    def test_a_handler_that_does_else_for_one_argument_alone(self):
        slots = [handler("go", 3, [("n", N * passed().same(2))], []), handler("up", 1, [("n", now("n") + 1)], [])]
        screen = Screen(Part([("n", 4)], slots, []))
        screen("up")
        self.assertIs(screen.is_right, False)
        less = Screen(Part([("n", 4)], [handler("go", 2, [("n", N * passed().same(2))], []), slots[1]], []))
        less("up")
        self.assertIs(less.is_right, True)

    def test_a_handler_that_does_else_where_the_cells_never_are(self):
        # As long as k is 0, which it is in all rows, go leaves the same whatever it caught.
        slots = [handler("go", 1, [("n", now("n") + N * now("k"))], []), handler("up", 1, [("n", now("n") + 1)], [])]
        screen = Screen(Part([("n", 3), ("k", 2)], slots, [N]))
        self.assertEqual([screen("up"), screen.is_right, screen("go"), screen.is_right, screen("up"), screen("up"), screen.is_right],
                         [[1], False, [1], False, [2], [0], True])

    def test_a_put_that_is_put_over(self):
        slots = [handler("go", 1, [("n", N), ("n", 0)], []), handler("up", 1, [("n", now("n") + 1)], [])]
        screen = Screen(Part([("n", 3)], slots, []))
        screen("up")
        self.assertIs(screen.is_right, True)

    def test_an_old_memo_that_another_one_takes(self):
        # w is made of the old m each time: it is not what the fresh part makes.
        slots = [memo("m", N, []), memo("w", M + 1, ["m", "n"]), handler("up", 1, [("n", now("n") + 1)], [])]
        screen = Screen(Part([("n", 2)], slots, [named("w")]))
        self.assertEqual([screen("up"), screen.is_right, screen("up"), screen.is_right], [[1], False, [1], True])

    def test_a_handler_that_caught_an_old_memo(self):
        slots = [memo("m", N, []), handler("go", 1, [("b", M)], ["n"]), handler("up", 1, [("n", now("n") + 1)], [])]
        screen = Screen(Part([("n", 2), ("b", 2)], slots, [B]))
        self.assertEqual([screen("up"), screen.is_right, screen("go"), screen("up"), screen.is_right],
                         [[0], False, [0], [0], True])

    def test_cells_that_hold_what_no_row_leads_to(self):
        # k is 1 only behind a handler that somebody kept for later; the list of m misses k.
        slots = [memo("m", K, []), handler("mark", 1, [("k", ~N.same(now("n")))], ["n"]),
                 handler("up", 1, [("n", now("n") + 1)], []), handler("off", 1, [("k", 0)], [])]
        part = Part([("n", 3), ("k", 2)], slots, [M, K])
        self.assertIsNone(wrong_row(part))
        screen = Screen(part)
        held = screen["mark"]
        self.assertEqual([screen("mark"), screen("up"), screen("mark"), screen.is_right], [[0, 0]] * 3 + [True])
        self.assertEqual([held(), screen.cells, screen.is_right], [[0, 1], [1, 1], False])
        self.assertEqual([screen("off"), screen.is_right], [[0, 0], True])
        self.assertEqual([held(), screen.is_right, screen.undo(), screen.is_right], [[0, 1], False, None, True])
        full = Screen(part.full())
        held = full["mark"]
        self.assertEqual([full("up"), held(), full.cells, full.is_right], [[0, 0], [1, 1], [1, 1], True])

    def test_memos_that_would_be_long_where_no_row_leads(self):
        value, slots = K, []
        for name in "vwxy":
            for _ in range(8):
                value = value * named(value.names[0])
            slots.append(memo(name, value, []))
            value = named(name)
        slots.append(handler("mark", 1, [("k", ~N.same(now("n")) * 5), ("n", now("n") + 1)], ["n"]))
        begun = time.perf_counter()
        screen = Screen(Part([("n", 2), ("k", 6)], slots, [named("y")]))
        held = screen["mark"]
        self.assertEqual([screen("mark"), screen.is_right, held(), screen.cells, screen.is_right],
                         [[0], True, [0], [0, 5], False])
        self.assertLess(time.perf_counter() - begun, 1)

    def test_memos_of_sixty_digits(self):
        big = 10 ** 20 - 1
        slots = [memo("m", N * big * big * big, []), handler("up", 1, [("n", now("n") + 1)], [])]
        screen = Screen(Part([("n", 3)], slots, [M]))
        self.assertEqual([screen("up"), screen.is_right, screen("up"), screen("up"), screen.is_right],
                         [[0], False, [0], [0], True])
        screen = Screen(Part([("n", 3)], [slots[0].listing(["n"]), slots[1]], [M]))
        self.assertEqual([screen("up"), screen.is_right], [[big ** 3], True])

    def test_full_parts(self):
        for plan, drawing in drawn(0, 40):
            screen = Screen(plan.built().full())
            for events in drawing.row(plan):
                screen.batch(events)
                self.assertIs(screen.is_right, True)


class Beside(unittest.TestCase):
    """Screens beside what is asked of the part, and beside a reckoning by the letter."""

    def test_drawn_rows(self):
        counts = {True: 0, False: 0}
        for plan, drawing in drawn(0, 150):
            part = plan.built()
            for _ in range(2):
                row, screen, shadow = drawing.row(plan), Screen(part), Shadow(plan)
                shown, made, since = play(part, row), makings(part, row), {}
                for index in range(len(row) + 1):
                    if index > 0:
                        self.assertEqual(screen.batch(row[index - 1]), shown[index])
                        shadow.batch(row[index - 1])
                    self.assertEqual(screen.shown, shown[index])
                    self.assertEqual(told_by(screen, plan), shadow.told())
                    since.update((name, index) for name in made[index])
                    for name, _ in part.handlers:
                        self.assertEqual(screen[name].run, since[name])
                    counts[screen.is_right] += 1
                    if all(all(plan.right(run)) for run in shadow.runs):
                        self.assertEqual(screen.shown, play_fresh(part, row[:index])[-1])
        self.assertGreater(min(counts.values()), 200)

    def test_wrong_rows(self):
        found = 0
        for plan, _ in drawn(0, 150):
            for together in (False, True):
                row = wrong_row(plan.built(), together)
                if row is not None:
                    found += 1
                    screen = Screen(plan.built())
                    for events in row:
                        self.assertIs(screen.is_right, True)
                        screen.batch(events)
                    self.assertIs(screen.is_right, False)
        self.assertGreater(found, 50)

    def test_right_parts_are_right_on_screens(self):
        for plan, drawing in drawn(0, 60):
            screen = Screen(tightened(plan.built(), True))
            for events in drawing.row(plan):
                screen.batch(events)
                self.assertIs(screen.is_right, True)

    def test_drawn_batches_handlers_and_what_is_taken_back(self):
        counts = {True: 0, False: 0}
        for drawn_plan, drawing in drawn(0, 150):
            plan, draw = marked(drawn_plan), drawing.draw
            screen, shadow, held = Screen(plan.built()), Shadow(plan), []
            reached = {cells for step in plan.steps(False) for cells in step}
            for _ in range(25):
                kind = draw.random()
                if kind < 0.3:
                    event = draw.choice(plan.events)
                    self.assertEqual(screen(*event), shadow.batch([event]))
                elif kind < 0.45:
                    events = [draw.choice(plan.events) for _ in range(draw.randint(1, 3))]
                    self.assertEqual(screen.batch(events), shadow.batch(events))
                elif kind < 0.6:
                    name = draw.choice(plan.events)[0]
                    held.append((screen[name], shadow.held(name)))
                elif kind < 0.85 and held:
                    one, other = draw.choice(held)
                    argument = draw.randrange(plan.slots[other[0]][2])
                    self.assertEqual(one(argument), shadow.fire(other, argument))
                elif screen.runs > 1:
                    self.assertIsNone(screen.undo())
                    shadow.undo()
                self.assertEqual(told_by(screen, plan), shadow.told())
                self.assertEqual([one.run for one, _ in held], [other[2] for _, other in held])
                if tuple(screen.cells) not in reached:
                    counts[screen.is_right] += 1
        self.assertGreater(min(counts.values()), 50)


class Two(unittest.TestCase):
    """What is done on one screen changes nothing on another one."""

    def test_screens_by_turns(self):
        slots = [memo("m", N, ["b"]), handler("up", 1, [("n", N + 1)], ["n"]), handler("flip", 1, [("b", ~now("b"))], [])]
        part = Part([("n", 5), ("b", 2)], slots, [M])
        parts = [part, part, Part([("n", 5), ("b", 2)], slots, [M]), Part([("n", 3), ("b", 2), ("k", 2)], slots, [N, M])]
        rows = [["up", "up", "flip", "up"], ["flip", "up", "flip", "flip"], ["up", "flip", "up", "flip"], ["up", "up", "up", "flip"]]
        screens, held = [Screen(one) for one in parts], []
        for at in range(4):
            for screen, one, names in zip(screens, parts, rows):
                self.assertEqual(screen(names[at]), play(one, [[(name, 0)] for name in names[:at + 1]])[-1])
                held.append(screen["up"])
        self.assertEqual([screen.runs for screen in screens], [5] * 4)
        before = [(screen.cells, screen.shown, screen.runs) for screen in screens[1:]]
        held[0]()
        screens[0].undo()
        screens[0].undo()
        self.assertEqual([(screen.cells, screen.shown, screen.runs) for screen in screens[1:]], before)

    def test_drawn_ones_by_turns(self):
        for plan, drawing in drawn(0, 60):
            if plan.events:
                part, draw = plan.built(), drawing.draw
                pairs = [(Screen(one), Shadow(plan)) for one in (part, part, plan.built(), part.full().having(part.slots[0], []))]
                full = Plan(plan.cells, [slot[:-1] + (plan.ahead(index) if index else [],)
                                         for index, slot in enumerate(plan.slots)], plan.shown)
                pairs[3] = (pairs[3][0], Shadow(full))
                for _ in range(20):
                    screen, shadow = draw.choice(pairs)
                    events = [draw.choice(plan.events) for _ in range(draw.randint(1, 2))]
                    self.assertEqual(screen.batch(events), shadow.batch(events))
                    for one, other in pairs:
                        self.assertEqual(told_by(one, plan), other.told())

    def test_what_is_asked_of_the_part_meanwhile(self):
        part = counting(["b"])
        screen, row = Screen(part), [[("more", 2)], [("flip", 0)], [("up", 0), ("up", 0)]]
        for at, events in enumerate(row):
            screen.batch(events)
            self.assertEqual(play(part, row)[at + 1], screen.shown)
            self.assertEqual(wrong_row(part), [[("up", 0)]])
            tightened(part)
            part.full()
        self.assertEqual((screen["m"], screen.cells), (30, [4, 1]))
        self.assertEqual(part, counting(["b"]))


class Lists(unittest.TestCase):
    def test_the_list_of_a_batch_changes_afterwards(self):
        screen, events = Screen(counting(["n"])), [("more", 2), ("flip", 0)]
        self.assertEqual(screen.batch(events), [30, 4, 7])
        self.assertEqual(events, [("more", 2), ("flip", 0)])
        events.append(("x", 9))
        events[0] = ("up", 0)
        self.assertEqual((screen.shown, screen.cells), ([30, 4, 7], [3, 1]))
        events.clear()
        self.assertEqual(screen("up"), [40, 5, 7])
        screen.undo()
        self.assertEqual(screen.shown, [30, 4, 7])

    def test_told_lists_that_change(self):
        screen = Screen(counting(["n"]))
        held = screen["more"]
        for tell, awaited in ((lambda: screen("more", 1), [20, 2, 7]), (lambda: screen.batch([("more", 0)]), [30, 3, 7]),
                              (lambda: held(0), [40, 4, 7])):
            found = tell()
            self.assertEqual(found, awaited)
            found[0] = "x"
            found.append("y")
            self.assertEqual((screen.shown, screen["m"]), (awaited, awaited[0]))
            for one in (screen.shown, screen.cells):
                one[0] = "x"
                one.clear()
            self.assertEqual((screen.shown, screen.cells), (awaited, [awaited[1], 0]))
        self.assertIsNot(screen.shown, screen.shown)
        self.assertIsNot(screen.cells, screen.cells)
        screen.undo()
        self.assertEqual((screen.shown, screen.cells), ([30, 3, 7], [3, 0]))

    def test_the_lists_of_the_part_change_afterwards(self):
        cells, names, shown = [("n", 5)], ["n"], [M]
        puts = [("n", N + 1)]
        slots = [memo("m", N, names), handler("up", 1, puts, names)]
        part = Part(cells, slots, shown)
        screen = Screen(part)
        for one in (cells, names, shown, puts, slots, part.cells, part.slots, part.handlers, part["up"]):
            one.clear()
        self.assertEqual([screen("up"), screen("up"), screen["m"], screen.cells, screen.is_right], [[1], [2], 2, [2], True])


if __name__ == "__main__":
    unittest.main()
