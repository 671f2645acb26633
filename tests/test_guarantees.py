"""Promises 2, 7 and 10: what holds between the answers, and parts for which a test goes through all that comes."""

import copy
import time
import unittest

from beside import Plan, many
from drawn import CELLS, Drawing, drawn
from elderruns.late import can_wait, cut_rows, late_rows
from elderruns.lists import idle, is_right_list, least_lists, missing_row, tightened, turning
from elderruns.parts import Part, handler, memo
from elderruns.plays import all_steps, first_unlike, judge, machine, makings, play, play_fresh, wrong_row
from elderruns.values import named, now, passed

N, B, M = named("n"), named("b"), named("m")


def short(row, most):
    """Return a row that has at most some events, None for a longer one."""
    return None if row is None or many(row) > most else row


class Between(unittest.TestCase):
    def test_right_parts_play_as_the_fresh_part(self):
        counts = [0, 0]
        for plan, drawing in drawn(0, 200):
            part = plan.built()
            for together in (False, True):
                if wrong_row(part, together) is None:
                    counts[together] += 1
                    for _ in range(5):
                        row = drawing.row(plan)
                        if not together:
                            row = [[event] for batch in row for event in batch]
                        self.assertEqual(play(part, row), play_fresh(part, row))
        self.assertGreater(min(counts), 60)

    def test_full_parts_are_right_and_right_together(self):
        for plan, drawing in drawn(0, 100):
            full = plan.built().full()
            for together in (False, True):
                self.assertIsNone(wrong_row(full, together))
                self.assertIs(judge(full, all_steps(full, together), together), True)
            row = drawing.row(plan)
            self.assertEqual(play(full, row), play_fresh(full, row))

    def test_right_together_is_right(self):
        for plan, _ in drawn(0, 150):
            part = plan.built()
            plain, every = wrong_row(part), wrong_row(part, True)
            if plain is not None:
                self.assertLessEqual((many(every), every == plain), (many(plain), True))

    def test_right_exactly_if_each_list_is_right(self):
        counts = {True: 0, False: 0}
        for plan, _ in drawn(0, 150):
            part = plan.built()
            for together in (False, True):
                right = all([is_right_list(part, name, part[name], together) for name in part.slots])
                rows = [missing_row(part, name, part[name], together) for name in part.slots]
                row = wrong_row(part, together)
                self.assertIs(row is None, right)
                self.assertIs(judge(part, all_steps(part, together), together), right)
                counts[right] += 1
                if not right:
                    # The first wrong row is the first one of those of the slots, each alone.
                    index = {event: at for at, event in enumerate(plan.events)}
                    marks = [(many(one), [[index[event] for event in batch] for batch in one])
                             for one in rows if one is not None]
                    self.assertEqual(min(marks), (many(row), [[index[event] for event in batch] for batch in row]))
        self.assertGreater(min(counts.values()), 50)

    def test_a_slot_is_not_right_behind_the_wrong_row_and_all_are_ahead_of_it(self):
        found = 0
        for plan, _ in drawn(0, 150):
            for together in (False, True):
                row = wrong_row(plan.built(), together)
                if row is not None:
                    found += 1
                    runs = plan.runs(row)
                    self.assertFalse(all(plan.right(runs[-1])))
                    for run in runs[:-1]:
                        self.assertTrue(all(plan.right(run)))
        self.assertGreater(found, 50)

    def test_no_row_ahead_of_the_wrong_row_is_wrong(self):
        lengths = []
        for plan, _ in drawn(0, 90):
            most = {0: 1, 1: 6, 2: 4, 3: 3}[len(plan.events)]
            for together in (False, True):
                row = wrong_row(plan.built(), together)
                self.assertEqual(short(row, most), plan.wrong_row(together, most))
                lengths.append(0 if short(row, most) is None else many(row))
        self.assertGreater(min(lengths.count(0), lengths.count(1), len(lengths) - lengths.count(0) - lengths.count(1)), 3)


class OneSmallPart(unittest.TestCase):
    """Each answer for one part, found by going through all that comes."""

    plan = Plan([("n", 3), ("b", 2)], [
        ("memo", "sum", ("+", ("named", "n"), ("*", ("named", "b"), 2)), ["n"]),
        ("on", "up", 2, [("n", ("+", ("named", "n"), ("passed",))), ("b", ("=", ("now", "n"), 2))], ["n", "sum"]),
        ("memo", "old", ("<", ("named", "sum"), 3), ["sum"]),
        ("on", "flip", 1, [("b", ("-", ("named", "old"), ("now", "b")))], ["b"]),
    ], [("named", "sum"), ("named", "old")])

    def test_rows(self):
        part = self.plan.built()
        for together, most in ((False, 5), (True, 4)):
            for length in range(most):
                for row in self.plan.rows(length, together):
                    self.assertEqual(play(part, row), [run[3] for run in self.plan.runs(row)])
                    self.assertEqual(play_fresh(part, row), [run[3] for run in self.plan.runs(row, True)])
                    self.assertEqual(makings(part, row), [run[2] for run in self.plan.runs(row)])

    def test_every_combination_of_lists(self):
        part, found = self.plan.built(), []
        for lists in ([[], ["n"], [], []], [["n"], ["n"], ["sum"], ["old"]], [["n", "b"], ["n"], ["sum"], ["old"]],
                      [["n", "b"], [], ["sum"], ["old"]], [["n", "b"], ["n"], ["n"], ["old"]],
                      [["n", "b"], ["n"], ["n", "b"], []], [["n", "b"], ["sum"], ["sum"], ["sum"]],
                      [["n", "b"], ["n"], ["b", "sum"], ["n", "b", "sum"]]):
            plan = Plan(self.plan.cells, [slot[:-1] + (names,) for slot, names in zip(self.plan.slots, lists)], self.plan.shown)
            for name, names in zip(part.slots, lists):
                part = part.having(name, names)
            self.assertEqual(part, plan.built())
            for together, most in ((False, 5), (True, 4)):
                found.append(wrong_row(part, together))
                self.assertEqual(short(found[-1], most), plan.wrong_row(together, most))
        self.assertIn(None, found)
        self.assertGreater(len({many(row) for row in found if row is not None}), 1)

    def test_steps_and_lists(self):
        part = self.plan.built()
        for together in (False, True):
            self.assertEqual(all_steps(part, together), self.plan.steps(together))
            for index, name in enumerate(part.slots):
                self.assertEqual(turning(part, name, together), self.plan.turning(index, together))
                self.assertEqual(least_lists(part, name, together), self.plan.least_lists(index, together))
                names = self.plan.ahead(index)
                for bits in range(2 ** len(names)):
                    chosen = [one for at, one in enumerate(names) if bits >> at & 1]
                    row = missing_row(part, name, chosen, together)
                    self.assertEqual(short(row, 3), self.plan.missing_row(index, chosen, together, 3))
                    self.assertIs(is_right_list(part, name, chosen, together), row is None)

    def test_pairs_of_rows(self):
        part = self.plan.built()
        self.assertEqual(cut_rows(part), self.plan.cut_rows(4))
        self.assertIsNotNone(cut_rows(part))
        for name in ("up", "flip"):
            self.assertEqual(late_rows(part, name), self.plan.late_rows(name, 4))
            self.assertIsNotNone(late_rows(part, name))

    def test_the_machine(self):
        self.assertEqual(machine(self.plan.built()), self.plan.machine(4))


def all_answers(part, events):
    """Return the answers of all questions about a part."""
    row = [[event, events[-1]] for event in events] + [[event] for event in events]
    found = [play(part, row), play_fresh(part, row), makings(part, row), machine(part), first_unlike(part, part.full()),
             cut_rows(part)]
    found += [(late_rows(part, name), can_wait(part, name)) for name, _ in part.handlers]
    for together in (False, True):
        steps = all_steps(part, together)
        found += [steps, wrong_row(part, together), judge(part, steps, together), tightened(part, together),
                  idle(part.full(), together)]
        for name in part.slots:
            found += [turning(part, name, together), least_lists(part, name, together),
                      is_right_list(part, name, part[name], together), missing_row(part, name, part[name], together)]
    return found


class Unchanged(unittest.TestCase):
    def test_what_is_asked_changes_nothing(self):
        for plan, _ in drawn(0, 40):
            if plan.events:
                part = plan.built()
                found = all_answers(part, plan.events)
                kept = copy.deepcopy(found)
                self.assertEqual(part, plan.built())
                self.assertEqual(all_answers(part, plan.events), kept)
                for one in found:
                    if isinstance(one, list):
                        one.clear()
                self.assertEqual(all_answers(plan.built(), plan.events), kept)
                self.assertEqual(all_answers(part, plan.events), kept)

    def test_slots_in_several_parts(self):
        slots = [memo("m", N, []), handler("up", 2, [("n", M + passed() + 1)], ["n"])]
        parts = [Part([("n", 3)], slots, [M]), Part([("n", 5), ("b", 2)], slots, [M, B]), Part([("n", 3)], slots, [M])]
        found = [all_answers(part, [("up", 0), ("up", 1)]) for part in parts]
        self.assertEqual(found[0], found[2])
        self.assertEqual([all_answers(part, [("up", 0), ("up", 1)]) for part in parts], found)

    def test_parts_that_the_program_returns(self):
        for plan, _ in drawn(40, 80):
            part = plan.built()
            for tight in (tightened(part), tightened(part, True), tightened(tightened(part)), tightened(part.full())):
                self.assertEqual(machine(tight), machine(part))
                self.assertEqual(all_steps(tight, True), all_steps(part, True))
                self.assertIsNone(first_unlike(tight, part))
                self.assertIsNone(wrong_row(tight.full(), True))
                self.assertEqual(tightened(tight), tightened(part))


class Bounds(unittest.TestCase):
    def big(self, seed):
        """Return a part at the bounds, and its events."""
        drawing = Drawing(seed, most=16)
        draw = drawing.draw
        sizes = draw.choice([[4, 4], [2, 2, 2, 2], [2, 2, 4], [2, 1, 2, 2, 2], [3, 5], [8, 2]])
        drawing.cells = list(zip(CELLS, sizes))
        drawing.names = [name for name, _ in drawing.cells]
        drawing.known = list(drawing.names)
        slots = []
        for name, number in zip("vwxyz", draw.choice([[0, 2, 2, 1, 1], [1, 1, 1, 1, 2], [0, 0, 0, 3, 3], [0, 3, 0, 3, 0]])):
            names = [one for one in drawing.known if draw.random() < 0.7]
            if number == 0:
                slots.append(("memo", name, drawing.tree(False, 8), names))
                drawing.known.append(name)
            else:
                puts = [(draw.choice(drawing.names), drawing.tree(True, 8)) for _ in range(4)]
                puts.append(("n", ("+", ("now", "n"), ("+", ("passed",), 1))))
                puts.append(("b", ("+", ("now", "b"), ("~", ("now", "n")))))
                slots.append(("on", name, number, puts, names))
        plan = Plan(drawing.cells, slots, [drawing.tree(False, 8) for _ in range(10)])
        return plan.built(), plan.events

    def test_an_answer_comes_soon(self):
        # Some thousand questions should come within seconds; the limit leaves room for slow machines.
        parts = [self.big(seed) for seed in range(8)]
        begun, asked = time.perf_counter(), 0
        for part, events in parts:
            asked += len(all_answers(part, events))
            play(part, [[event] for event in (events * 7)[:40]])
        self.assertLess((time.perf_counter() - begun) / asked, 0.2)

    def test_beside_runs_by_the_letter(self):
        for seed in range(20, 30):
            part, events = self.big(seed)
            tight = tightened(part, True)
            self.assertIsNone(wrong_row(tight, True))
            row = [[one, other] for one in events for other in events] + [[event] for event in events]
            self.assertEqual(play(tight, row[:20]), play_fresh(tight, row[:20]))
            self.assertEqual(idle(tight, True), [])

    def test_memos_that_are_long_where_no_row_leads(self):
        slots, value = [], named("b")
        for name in "vwxyz"[:4]:
            for _ in range(8):
                value = value * named(value.names[0])
            slots.append(memo(name, value * 1, []))
            value = named(name)
        cells = [("n", 4), ("b", 3)]
        part = Part(cells, slots + [handler("up", 1, [("n", N + 1 + named("y") * 0)], ["n"])], [named("y"), N])
        found = all_answers(part, [("up", 0)])
        self.assertEqual(found[3], [([0, at], [(at + 1) % 4]) for at in range(4)])
        self.assertIsNone(wrong_row(part, True))

    def test_memos_of_sixty_digits(self):
        big = 10 ** 20 - 1
        slots = [memo("m", N * big * big * big, ["n"]), handler("up", 1, [("n", now("n") + 1), ("b", M // big)], ["m"])]
        part = Part([("n", 3), ("b", 2)], slots, [M])
        self.assertIsNone(wrong_row(part, True))
        self.assertEqual(turning(part, "m"), [["n"]])
        self.assertEqual([shown for shown, _ in machine(part)], [[0], [big ** 3], [2 * big ** 3]])

    def test_somewhat_beyond_the_bounds(self):
        cells = [("n", 3), ("b", 2), ("k", 2), ("e", 2), ("d", 1), ("f", 1)]
        slots = [memo("m" + letter, N + B, ["n"]) for letter in "abcd"]
        slots += [handler("h" + letter, 2, [("n", now("n") + passed()), ("b", N)], []) for letter in "abcde"]
        part = Part(cells, slots, [named("ma")])
        self.assertEqual(wrong_row(part), [[("ha", 1)]])
        self.assertIsNone(wrong_row(tightened(part, True), True))
        self.assertEqual(least_lists(part, "he")[0], ["n"])


if __name__ == "__main__":
    unittest.main()
