"""Promises 9 and 10: whether two parts always show the same, and the least machine of a part."""

import unittest

from drawn import Drawing, drawn
from beside import Plan, many
from elderruns.errors import UnlikeHandlers
from elderruns.parts import Part, handler, memo
from elderruns.plays import first_unlike, machine, play_fresh
from elderruns.values import named, now, passed

N, B, M = named("n"), named("b"), named("m")
MORE = handler("more", 1, [("n", now("n") + 1)], [])


class FirstUnlike(unittest.TestCase):
    def unlike(self, one, other, awaited):
        """Check the row, either way about."""
        self.assertEqual(first_unlike(one, other), awaited)
        self.assertEqual(first_unlike(other, one), awaited)
        self.assertEqual(first_unlike(one=one, other=other), awaited)

    def test_equal_parts(self):
        for part in (Part([], [], []), Part([("n", 3)], [MORE], [N]), Part([("n", 3)], [memo("m", N, []), MORE], [M, 4])):
            self.unlike(part, part, None)
            self.unlike(part, part.full(), None)

    def test_the_empty_row(self):
        one = Part([("n", 3)], [MORE], [N])
        for shown in ([1], [N + 1], [], [N, N], [0, 0]):
            self.unlike(one, Part([("n", 3)], [MORE], shown), [])
        self.unlike(Part([], [], []), Part([], [], []), None)
        self.unlike(Part([], [], [1]), Part([], [], [2]), [])

    def test_the_fresh_parts_count(self):
        one = Part([("n", 3)], [memo("m", N, []), handler("up", 1, [("n", N + 1)], [])], [M])
        other = Part([("n", 3)], [handler("up", 1, [("n", now("n") + 1)], [])], [N])
        self.unlike(one, other, None)

    def test_unlike_cells(self):
        two = Part([("n", 2), ("b", 3)], [handler("more", 1, [("n", now("n") + 1), ("b", now("b") + 1)], [])], [N, B])
        six = Part([("x", 6)], [handler("more", 1, [("x", now("x") + 1)], [])], [named("x").rest(2), named("x").rest(3)])
        self.unlike(two, six, None)
        self.unlike(two, Part([("x", 3)], [handler("more", 1, [("x", now("x") + 1)], [])], [named("x").rest(2), named("x")]),
                    [[("more", 0)]] * 3)
        still = Part([], [handler("more", 1, [], [])], [0, 0])
        self.unlike(two, still, [[("more", 0)]])

    def test_a_long_row(self):
        # One counts 0 to 15 and begins anew, the other one goes from 15 back to 1.
        one = Part([("n", 16)], [MORE], [N.same(15)])
        other = Part([("n", 16)], [handler("more", 1, [("n", now("n") + 1 + now("n").same(15))], [])], [N.same(15)])
        self.unlike(one, other, [[("more", 0)]] * 30)

    def test_the_first_of_several_rows(self):
        slots = [handler("b", 2, [("n", passed())], []), handler("a", 2, [("n", passed() * 2)], [])]
        part = Part([("n", 3)], slots, [N])
        self.unlike(part, Part([("n", 3)], slots, [0]), [[("b", 1)]])
        self.unlike(part, Part([("n", 3)], slots, [N.same(1)]), [[("a", 1)]])
        self.unlike(part, Part([("n", 3)], slots[:1] + [handler("a", 2, [("n", passed() - 1)], [])], [N]), [[("a", 0)]])

    def test_plain_rows_alone_count(self):
        # Within a batch the puts of the one handler are made from what it caught.
        one = Part([("n", 4)], [handler("up", 1, [("n", N + 1)], [])], [N])
        other = Part([("n", 4)], [handler("up", 1, [("n", now("n") + 1)], [])], [N])
        self.unlike(one, other, None)

    def test_unlike_handlers(self):
        one = Part([("n", 3)], [MORE, handler("up", 2, [], [])], [N])
        for slots in ([MORE], [], [handler("up", 2, [], []), MORE], [MORE, handler("up", 3, [], [])],
                      [MORE, handler("ups", 2, [], [])], [MORE, handler("up", 2, [], []), handler("x", 1, [], [])]):
            other = Part([("n", 3)], slots, [1])
            for first, second in ((one, other), (other, one)):
                with self.assertRaises(UnlikeHandlers) as caught:
                    first_unlike(first, second)
                value = caught.exception.value
                self.assertEqual(value, (first.handlers, second.handlers))
                self.assertIs(type(value), tuple)
                self.assertEqual([type(handlers) for handlers in value], [list, list])

    def test_memos_and_puts_may_be_unlike(self):
        one = Part([("n", 3)], [memo("m", N * 2, []), MORE], [M])
        other = Part([("n", 3)], [MORE, memo("x", N, []), memo("y", N, [])], [named("x") + named("y")])
        self.unlike(one, other, None)

    def test_each_list_is_new(self):
        one, other = Part([("n", 4)], [MORE], [N]), Part([("n", 4)], [MORE], [N.rest(3)])
        row = first_unlike(one, other)
        self.assertEqual(row, [[("more", 0)]] * 3)
        self.assertEqual(len({id(batch) for batch in row}), 3)
        row[0].clear()
        self.assertEqual(first_unlike(one, other), [[("more", 0)]] * 3)


class Machine(unittest.TestCase):
    def test_one_cell(self):
        self.assertEqual(machine(Part([("n", 3)], [MORE], [N, 5])), [([0, 5], [1]), ([1, 5], [2]), ([2, 5], [0])])
        self.assertEqual(machine(part=Part([("n", 2)], [MORE], [])), [([], [0])])

    def test_little_parts(self):
        self.assertEqual(machine(Part([], [], [])), [([], [])])
        self.assertEqual(machine(Part([("n", 5)], [memo("m", N - 1, [])], [M])), [([-1], [])])
        self.assertEqual(machine(Part([], [handler("wait", 3, [], [])], [2])), [([2], [0, 0, 0])])

    def test_states_that_show_the_same_for_ever(self):
        self.assertEqual(machine(Part([("n", 6)], [MORE], [N.rest(2)])), [([0], [1]), ([1], [0])])
        self.assertEqual(machine(Part([("n", 6), ("b", 2)], [MORE, handler("x", 1, [("b", ~B)], [])], [N.rest(3)])),
                         [([0], [1, 0]), ([1], [2, 1]), ([2], [0, 2])])
        self.assertEqual(machine(Part([("n", 6)], [MORE], [N * 0])), [([0], [0])])

    def test_states_that_show_the_same_only_at_first(self):
        self.assertEqual(machine(Part([("n", 4)], [MORE], [N.same(3)])),
                         [([0], [1]), ([0], [2]), ([0], [3]), ([1], [0])])

    def test_the_order_of_the_states(self):
        slots = [handler("to", 3, [("n", 2 - passed())], []), MORE]
        self.assertEqual(machine(Part([("n", 4)], slots, [N])),
                         [([0], [1, 2, 0, 2]), ([2], [1, 2, 0, 3]), ([1], [1, 2, 0, 1]), ([3], [1, 2, 0, 0])])
        slots = [handler("down", 1, [("n", N - 1)], []), MORE]
        self.assertEqual(machine(Part([("n", 5)], slots, [N])),
                         [([0], [1, 2]), ([4], [3, 0]), ([1], [0, 4]), ([3], [4, 1]), ([2], [2, 3])])

    def test_only_what_a_row_leads_to(self):
        self.assertEqual(machine(Part([("n", 6)], [handler("two", 1, [("n", now("n") + 2)], [])], [N])),
                         [([0], [1]), ([2], [2]), ([4], [0])])

    def test_the_machine_of_other_cells(self):
        two = Part([("n", 2), ("b", 3)], [handler("more", 1, [("n", now("n") + 1), ("b", now("b") + 1)], [])], [N * B])
        six = Part([("n", 6)], [MORE], [(N.rest(2)) * N.rest(3)])
        self.assertEqual(machine(two), machine(six))

    def test_sixteen_states(self):
        found = machine(Part([("n", 16)], [MORE], [N.same(7)]))
        self.assertEqual(found, [([int(k == 7)], [(k + 1) % 16]) for k in range(16)])

    def test_each_list_is_new(self):
        part = Part([("n", 3)], [MORE], [N // 2])
        found = machine(part)
        self.assertEqual(found, [([0], [1]), ([0], [2]), ([1], [0])])
        for shown, behind in found:
            shown.append("x")
            behind.clear()
        found.clear()
        self.assertEqual(machine(part), [([0], [1]), ([0], [2]), ([1], [0])])


class Drawn(unittest.TestCase):
    def variants(self, plan, drawing):
        """Return plans with the same handlers, of which some show the same."""
        wider = [(name, size * 2 if index == 0 else size) for index, (name, size) in enumerate(plan.cells)]
        more = [slot if slot[0] == "memo" else slot[:3] + (slot[3] + [drawing.put()],) + slot[4:] for slot in plan.slots]
        turned = [slot[:2] + (("~", ("~", slot[2])),) + slot[3:] if slot[0] == "memo" else slot for slot in plan.slots]
        drawing.known = list(plan.names)
        shown = [drawing.tree(False, 1) for _ in plan.shown]
        return [Plan(plan.cells, more, plan.shown), Plan(plan.cells, turned, plan.shown), Plan(plan.cells, plan.slots, shown),
                Plan(wider, plan.slots, plan.shown)]

    def test_beside_all_that_comes(self):
        lengths = []
        for seed in range(0, 60):
            drawing = Drawing(seed, most=6)
            plan = drawing.plan()
            part, most = plan.built(), {0: 0, 1: 8, 2: 5, 3: 4}[len(plan.events)]
            drawing.known = list(plan.names)
            for other in self.variants(plan, drawing):
                beside = other.built()
                row, found = first_unlike(part, beside), plan.first_unlike(other, most)
                self.assertEqual(row is None, machine(part) == machine(beside))
                if row is None or many(row) <= most:
                    self.assertEqual(row, found)
                else:
                    self.assertIsNone(found)
                    self.assertNotEqual(play_fresh(part, row)[-1], play_fresh(beside, row)[-1])
                lengths.append(None if row is None else many(row))
        self.assertGreater(min(lengths.count(length) for length in (None, 0, 1)), 20)
        self.assertGreater(len([length for length in lengths if length is not None and length > 1]), 5)

    def test_machines_beside_all_that_comes(self):
        sizes = []
        for plan, _ in drawn(0, 60, most=4, events=2):
            found = machine(plan.built())
            self.assertEqual(found, plan.machine(3))
            sizes.append(len(found))
        self.assertGreater(len([size for size in sizes if size > 1]), 20)


if __name__ == "__main__":
    unittest.main()
