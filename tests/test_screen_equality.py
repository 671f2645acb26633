"""The section elderruns/screens.py: which kept handlers, and which screens, are equal."""

import unittest

from drawn import drawn
from elderruns.parts import Part, handler, memo
from elderruns.screens import Screen
from elderruns.values import named, now
from shadow import Shadow

N, B, M = named("n"), named("b"), named("m")
CELLS = [("n", 4), ("b", 2)]
SLOTS = [memo("m", N // 2, ["n"]), handler("up", 1, [("n", N + 1)], ["n", "m"]), handler("down", 1, [("n", N - 1)], ["m", "n"]),
         handler("flip", 1, [("b", ~now("b"))], []), handler("same", 1, [("b", ~now("b"))], [])]
PART = Part(CELLS, SLOTS, [M])
# Equal to it, with lists told in another order.
AGAIN = Part(CELLS, [SLOTS[0], SLOTS[1].listing(["m", "n"]), SLOTS[2].listing(["n", "m"])] + SLOTS[3:], [named("m")])
# In each of these one thing is changed.
UNLIKE = [Part([("n", 5), ("b", 2)], SLOTS, [M]), Part([("n", 4), ("c", 2)], SLOTS[:3], [M]), Part(CELLS + [("c", 1)], SLOTS, [M]),
          Part(CELLS, SLOTS[:4], [M]), Part(CELLS, SLOTS, [M, M]), Part(CELLS, SLOTS, []), Part(CELLS, SLOTS, [M + 0]),
          PART.having("flip", ["b"]), PART.having("up", ["n"]), PART.having("m", ["n", "b"]), PART.full(),
          Part(CELLS, SLOTS[:3] + [SLOTS[4], SLOTS[3]], [M]),
          Part(CELLS, SLOTS[:3] + [handler("flip", 2, [("b", ~now("b"))], []), SLOTS[4]], [M])]


class Equality(unittest.TestCase):
    def equal(self, one, other):
        """Check that two things are equal, either way about."""
        self.assertEqual((one == other, other == one, one != other, other != one), (True, True, False, False))

    def unlike(self, one, other):
        """Check that two things are not equal, either way about."""
        self.assertEqual((one == other, other == one, one != other, other != one), (False, False, True, True))


class KeptHandlers(Equality):
    def test_on_one_screen(self):
        screen = Screen(PART)
        first = screen["up"]
        self.equal(first, first)
        self.equal(first, screen["up"])
        screen("flip")
        self.equal(first, screen["up"])
        screen("up")
        self.unlike(first, screen["up"])
        second = screen["up"]
        screen("down")
        self.equal(screen["up"].run, 3)
        self.unlike(first, screen["up"])
        self.unlike(second, screen["up"])

    def test_all_that_was_caught_counts(self):
        # What b is, the handler does not need; the one of the last run caught another integer all the same.
        screen = Screen(PART)
        first = screen["up"]
        for name in ("flip", "up", "down"):
            screen(name)
        self.assertEqual(screen.cells, [0, 1])
        self.unlike(first, screen["up"])
        for name in ("flip", "up", "down"):
            screen(name)
        self.assertEqual((screen.cells, first.run, screen["up"].run), ([0, 0], 0, 6))
        self.equal(first, screen["up"])

    def test_an_old_memo_that_was_caught(self):
        part = PART.having("m", [])
        one, other = Screen(part), Screen(part)
        self.equal(one["up"], other["up"])
        for name in ("up", "up"):
            one(name)
        for name in ("up", "up"):
            other(name)
        self.equal(one["up"], other["up"])
        old = Screen(Part(CELLS, [memo("m", N // 2, ["b"])] + SLOTS[1:], [M]))
        for name in ("up", "up", "flip", "up", "down", "flip"):
            old(name)
        twin = Screen(Part(CELLS, [memo("m", N // 2, ["b"])] + SLOTS[1:], [M]))
        for name in ("up", "up"):
            twin(name)
        self.assertEqual((old.cells, twin.cells, old["m"], twin["m"]), ([2, 0], [2, 0], 1, 0))
        self.unlike(old["up"], twin["up"])

    def test_a_memo_behind_is_not_caught(self):
        slots = [handler("up", 1, [("n", N + 1)], ["n"]), memo("m", N, ["b"]), SLOTS[3]]
        one, other = Screen(Part(CELLS, slots, [M])), Screen(Part(CELLS, slots, [M]))
        for name in ("up", "flip", "flip", "up", "up", "up", "up"):
            one(name)
        for name in ("flip", "flip", "up"):
            other(name)
        self.assertEqual((one.cells, other.cells, one["m"], other["m"]), ([1, 0], [1, 0], 1, 0))
        self.equal(one["up"], other["up"])
        self.unlike(one, other)

    def test_slots(self):
        screen = Screen(PART)
        names = ["up", "down", "flip", "same"]
        for one in names:
            for other in names:
                if one != other:
                    self.unlike(screen[one], screen[other])
        self.equal(screen["flip"], Screen(PART)["flip"])

    def test_on_two_screens(self):
        one, other = Screen(PART), Screen(AGAIN)
        self.equal(PART, AGAIN)
        self.equal(one["up"], other["up"])
        self.equal(one["down"], other["down"])
        one("up")
        self.unlike(one["up"], other["up"])
        self.equal(one["flip"], other["flip"])
        other("flip")
        other("flip")
        other.batch([("up", 0), ("up", 0)])
        self.equal(one["up"], other["up"])
        self.assertEqual((one["up"].run, other["up"].run), (1, 3))

    def test_of_parts_with_one_thing_changed(self):
        for part in UNLIKE:
            screen = Screen(part)
            for name in ("up", "down"):
                self.unlike(Screen(PART)[name], screen[name])
                self.equal(screen[name], Screen(part)[name])

    def test_behind_what_was_taken_back(self):
        screen, twin = Screen(PART), Screen(PART)
        screen("up")
        held = screen["up"]
        screen.undo()
        twin("up")
        self.equal(held, twin["up"])
        self.unlike(held, screen["up"])
        held()
        self.assertEqual(screen.cells, [2, 0])
        self.equal(held, twin["up"])

    def test_beside_anything_else(self):
        screen = Screen(PART)
        for thing in (3, 0, None, True, False, "up", b"up", [], ["up"], (), {}, screen, PART, SLOTS[1], N, object(), Screen,
                      screen["m"], screen.shown):
            self.unlike(screen["up"], thing)

    def test_beside_what_is_equal_to_all(self):
        class Any:
            def __eq__(self, other):
                return True

        screen = Screen(PART)
        self.assertIs(screen["up"] == Any(), False)
        self.assertIs(screen == Any(), False)


class Screens(Equality):
    def test_new_ones(self):
        screen = Screen(PART)
        self.equal(screen, screen)
        self.equal(screen, Screen(PART))
        self.equal(screen, Screen(AGAIN))
        for part in UNLIKE:
            self.unlike(screen, Screen(part))
            self.equal(Screen(part), Screen(part))

    def test_cells(self):
        one, other = Screen(PART), Screen(PART)
        one("flip")
        self.unlike(one, other)
        other("same")
        self.equal(one, other)

    def test_other_runs_but_the_same_slots(self):
        one, other = Screen(PART), Screen(AGAIN)
        for name in ("up", "up"):
            one(name)
        for name in ("up", "up", "up", "down"):
            other(name)
        self.assertEqual((one.runs, other.runs, one["up"].run, other["up"].run), (3, 5, 2, 4))
        self.equal(one, other)
        one.undo()
        self.unlike(one, other)
        other.undo()
        other.undo()
        other.undo()
        self.equal(one, other)

    def test_old_memos(self):
        part = Part(CELLS, [memo("m", N, ["b"]), handler("up", 1, [("n", now("n") + 1)], []), SLOTS[3]], [B])
        one, other = Screen(part), Screen(part)
        for name in ("up", "flip", "flip"):
            one(name)
        for name in ("flip", "flip", "up"):
            other(name)
        self.assertEqual((one.cells, other.cells, one.shown, other.shown, one["m"], other["m"]),
                         ([1, 0], [1, 0], [0], [0], 1, 0))
        self.unlike(one, other)

    def test_memos_by_their_integers(self):
        # m was made with unlike b and n in both, but it is the same integer.
        part = Part(CELLS, [memo("m", N // 2 + B * 0, ["b"]), handler("up", 1, [("n", now("n") + 1)], []), SLOTS[3]], [])
        one, other = Screen(part), Screen(part)
        for name in ("up", "flip", "flip", "up", "up", "up"):
            one(name)
        for name in ("up", "up", "up", "up"):
            other(name)
        self.assertEqual((one.cells, other.cells, one["m"], other["m"], one["up"].run), ([0, 0], [0, 0], 0, 0, 0))
        self.equal(one, other)

    def test_old_handlers(self):
        part = Part(CELLS, [handler("go", 1, [("b", N)], ["b"]), handler("up", 1, [("n", now("n") + 1)], []), SLOTS[3]], [])
        one, other = Screen(part), Screen(part)
        for name in ("up", "flip", "flip"):
            one(name)
        for name in ("flip", "flip", "up"):
            other(name)
        self.assertEqual((one.cells, other.cells, one["up"] == other["up"], one["go"] == other["go"]),
                         ([1, 0], [1, 0], True, False))
        self.unlike(one, other)

    def test_what_handlers_caught_counts_although_they_do_the_same(self):
        part = Part(CELLS, [handler("go", 1, [("b", 1)], ["b"]), handler("up", 1, [("n", now("n") + 1)], []), SLOTS[3]], [])
        one, other = Screen(part), Screen(part)
        for name in ("up", "flip", "flip"):
            one(name)
        for name in ("flip", "flip", "up"):
            other(name)
        self.assertEqual((one.cells, one.is_right, other.is_right), (other.cells, True, True))
        self.unlike(one, other)

    def test_held_handlers_lead_there_too(self):
        one, other = Screen(PART), Screen(PART)
        held = one["up"]
        for name in ("up", "up", "flip"):
            one(name)
        held()
        other("flip")
        other("up")
        self.assertEqual((one.runs, other.runs), (5, 3))
        self.unlike(one, Screen(PART))
        self.equal(one, other)

    def test_beside_anything_else(self):
        screen = Screen(PART)
        for thing in (1, 0, None, True, False, "screen", b"", [], screen.cells, screen.shown, (), {}, PART, SLOTS[0], N,
                      screen["up"], object(), Screen):
            self.unlike(screen, thing)

    def test_what_is_compared_stays_as_it_is(self):
        one, other = Screen(PART), Screen(PART)
        one("up")
        for _ in range(3):
            self.unlike(one, other)
        self.assertEqual((one.cells, one.runs, other.cells, other.runs), ([1, 0], 2, [0, 0], 1))
        other("up")
        self.equal(one, other)


class Drawn(Equality):
    def test_beside_a_reckoning_by_the_letter(self):
        counts = {True: 0, False: 0}
        for plan, drawing in drawn(0, 80):
            if not plan.events:
                continue
            draw, pairs = drawing.draw, []
            for _ in range(4):
                screen, shadow = Screen(plan.built()), Shadow(plan)
                for _ in range(draw.randint(0, 6)):
                    events = [draw.choice(plan.events) for _ in range(draw.randint(1, 2))]
                    screen.batch(events)
                    shadow.batch(events)
                pairs.append((screen, shadow))
            for one, told in pairs:
                for other, tells in pairs:
                    awaited = told.runs[-1][0] == tells.runs[-1][0] and told.slots() == tells.slots()
                    counts[awaited] += one is not other
                    self.assertEqual((one == other, one != other), (awaited, not awaited))
                    for name, _ in plan.built().handlers:
                        awaited = told.held(name)[1] == tells.held(name)[1]
                        self.assertEqual((one[name] == other[name], one[name] != other[name]), (awaited, not awaited))
        self.assertGreater(min(counts.values()), 40)


if __name__ == "__main__":
    unittest.main()
