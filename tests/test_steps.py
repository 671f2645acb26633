"""Promises 8 and 10: all steps, and whether a table of steps shows that a part is right."""

import copy
import unittest

from drawn import drawn
from elderruns.parts import Part, handler, memo
from elderruns.plays import all_steps, judge, wrong_row
from elderruns.values import named, now, passed

N, B, M = named("n"), named("b"), named("m")
MORE = handler("more", 1, [("n", now("n") + 1)], [])
FLIP = handler("flip", 1, [("b", ~now("b"))], [])


class AllSteps(unittest.TestCase):
    def test_one_cell(self):
        part = Part([("n", 3)], [MORE], [N])
        self.assertEqual(all_steps(part), [((0,), (1,)), ((1,), (2,)), ((2,), (0,))])
        self.assertEqual(all_steps(part, False), all_steps(part))
        self.assertEqual(all_steps(part=part, together=True), [((one,), (other,)) for one in range(3) for other in range(3)])

    def test_steps_of_tuples_in_the_order_of_the_cells(self):
        part = Part([("n", 2), ("b", 2)], [MORE, FLIP], [])
        self.assertEqual(all_steps(part), [
            ((0, 0), (0, 1)), ((0, 0), (1, 0)), ((0, 1), (0, 0)), ((0, 1), (1, 1)),
            ((1, 0), (0, 0)), ((1, 0), (1, 1)), ((1, 1), (0, 1)), ((1, 1), (1, 0))])
        self.assertEqual(len(all_steps(part, True)), 16)
        for step in all_steps(part):
            self.assertIs(type(step), tuple)
            self.assertEqual([type(one) for one in step], [tuple, tuple])
        turned = Part([("b", 2), ("n", 2)], [MORE, FLIP], [])
        self.assertEqual(all_steps(turned), sorted([(one[::-1], other[::-1]) for one, other in all_steps(part)]))

    def test_steps_at_which_nothing_changes(self):
        to = handler("to", 3, [("n", passed())], [])
        part = Part([("n", 3)], [to], [])
        every = [((one,), (other,)) for one in range(3) for other in range(3)]
        self.assertEqual(all_steps(part), every)
        self.assertEqual(all_steps(part, True), every)
        part = Part([("n", 3)], [handler("stay", 2, [], [])], [])
        self.assertEqual(all_steps(part), [((0,), (0,))])
        part = Part([("n", 3)], [handler("stop", 1, [("n", now("n") + now("n").less(2))], [])], [])
        self.assertEqual(all_steps(part), [((0,), (1,)), ((1,), (2,)), ((2,), (2,))])
        self.assertEqual(all_steps(part, True), [((0,), (1,)), ((0,), (2,)), ((1,), (2,)), ((2,), (2,))])

    def test_only_what_a_row_leads_to(self):
        part = Part([("n", 6)], [handler("two", 1, [("n", now("n") + 2)], [])], [])
        self.assertEqual(all_steps(part), [((0,), (2,)), ((2,), (4,)), ((4,), (0,))])

    def test_the_fresh_part_alone_counts(self):
        # The handler is kept forever, yet the fresh part makes it anew.
        part = Part([("n", 3)], [handler("up", 1, [("n", N + 1)], [])], [N])
        self.assertEqual(all_steps(part), [((0,), (1,)), ((1,), (2,)), ((2,), (0,))])
        self.assertEqual(all_steps(part, True), all_steps(part))

    def test_little_parts(self):
        self.assertEqual(all_steps(Part([], [], [])), [])
        self.assertEqual(all_steps(Part([("n", 3)], [memo("m", N, [])], []), True), [])
        part = Part([], [handler("wait", 1, [], [])], [])
        self.assertEqual(all_steps(part), [((), ())])
        self.assertEqual(all_steps(part, True), [((), ())])

    def test_the_list_is_new(self):
        part = Part([("n", 3)], [MORE], [N])
        told = all_steps(part)
        told.clear()
        self.assertEqual(len(all_steps(part)), 3)

    def test_beside_all_that_comes(self):
        for plan, _ in drawn(0, 60):
            part = plan.built()
            for together in (False, True):
                self.assertEqual(all_steps(part, together), plan.steps(together))


class Judge(unittest.TestCase):
    part = Part([("n", 4), ("b", 2)], [memo("m", N.same(2) & B, ["n", "b"]), MORE, FLIP], [M])

    def judged(self, part, table, awaited, together=False):
        kept = copy.deepcopy(table)
        self.assertIs(judge(part, table, together), awaited)
        self.assertIs(judge(part=part, table=table, together=together), awaited)
        self.assertEqual(table, kept)

    def test_all_steps_of_right_and_wrong_parts(self):
        for names, right in ((["n", "b"], True), (["n"], False), (["b"], False), ([], False)):
            part = self.part.having("m", names)
            for together in (False, True):
                self.judged(part, all_steps(part, together), right, together)

    def test_in_any_order_and_more_than_once(self):
        for together in (False, True):
            table = all_steps(self.part, together)
            self.judged(self.part, table[::-1], True, together)
            self.judged(self.part, table[3:] + table + table[:5], True, together)
            self.judged(self.part, table[5:] + table[:5], True, together)

    def test_one_left_out(self):
        for together in (False, True):
            table = all_steps(self.part, together)
            for at in range(len(table)):
                self.judged(self.part, table[:at] + table[at + 1:], False, together)

    def test_plain_steps_are_too_few_together(self):
        self.judged(self.part, all_steps(self.part), False, True)
        self.judged(self.part, all_steps(self.part, True), True, False)

    def test_no_steps(self):
        self.judged(self.part, [], False)
        self.judged(self.part, [], False, True)
        for part in (Part([], [], []), Part([("n", 3)], [memo("m", N, [])], [])):
            self.judged(part, [], True)
            self.judged(part, [], True, True)
        part = Part([], [handler("wait", 1, [], [])], [])
        self.judged(part, [], False)
        self.judged(part, [((), ())], True)

    def test_one_step_more(self):
        for step in (((0, 0), (3, 1)), ((2, 1), (0, 0)), ((3, 1), (3, 1))):
            self.judged(self.part, all_steps(self.part) + [step], True)
        part = Part([("n", 4)], [memo("m", N // 2, []), handler("to", 2, [("n", passed())], [])], [M])
        self.judged(part, all_steps(part), True)
        # From 0 to 1 and back the memo does not turn; from 0 to 2 it does.
        self.judged(part, all_steps(part) + [((0,), (2,))], False)
        self.judged(part, all_steps(part) + [((3,), (1,))], False)
        self.judged(part, all_steps(part) + [((3,), (0,))], False)
        self.judged(part, all_steps(part) + [((3,), (3,))], False)

    def test_steps_behind_what_no_row_leads_to(self):
        part = Part([("n", 4)], [memo("m", N // 2, ["n"]), handler("to", 2, [("n", passed())], [])], [M])
        table = all_steps(part)
        self.assertEqual(table, [((one,), (other,)) for one in range(2) for other in range(2)])
        # Ahead of a step nothing is asked for, behind it all steps are.
        self.judged(part, table + [((3,), (1,))], True)
        self.judged(part, table + [((3,), (2,))], False)
        self.judged(part, table + [((3,), (2,)), ((2,), (0,))], False)
        self.judged(part, table + [((3,), (2,)), ((2,), (0,)), ((2,), (1,))], True)
        self.judged(part, [((3,), (2,)), ((2,), (0,)), ((2,), (1,))] + table[::-1], True)

    def test_steps_of_a_batch_behind_what_no_row_leads_to(self):
        # From 2 and 3 one event leads to 3 and 2; a batch leads to both.
        part = Part([("n", 4)], [handler("turn", 1, [("n", now("n") + 1 - (now("n").rest(2)) * 2)], [])], [N])
        table = all_steps(part, True)
        self.assertEqual(table, [((one,), (other,)) for one in range(2) for other in range(2)])
        behind = [((2,), (3,)), ((3,), (2,))]
        self.judged(part, all_steps(part) + behind, True)
        self.judged(part, table + behind, False, True)
        self.judged(part, table + behind + [((2,), (2,))], False, True)
        self.judged(part, table + behind + [((2,), (2,)), ((3,), (3,))], True, True)

    def test_a_slot_that_turns_while_no_name_changes(self):
        table = all_steps(self.part)
        part = self.part.having("m", ["b"])
        self.judged(part, table, False)
        part = Part([("n", 3)], [handler("up", 1, [("n", N + 1)], [])], [])
        self.judged(part, all_steps(part), False)
        self.judged(part.having("up", ["n"]), all_steps(part), True)

    def test_a_memo_beside_a_slot(self):
        slots = [memo("m", N // 2, ["n"]), handler("up", 1, [("b", M), ("n", now("n") + 1)], ["m"])]
        part = Part([("n", 4), ("b", 2)], slots, [])
        self.judged(part, all_steps(part), True)
        self.judged(part.having("up", ["b"]), all_steps(part), False)

    def test_the_shown_values_do_not_count(self):
        part = Part([("n", 3)], [MORE], [N])
        self.judged(part, all_steps(Part([("n", 3)], [MORE], [7])), True)

    def test_beside_all_that_comes(self):
        answers = []
        for plan, drawing in drawn(60, 130):
            part = plan.built()
            for together in (False, True):
                table = plan.steps(together)
                self.assertIs(judge(part, table, together), wrong_row(part, together) is None)
                for more in range(4):
                    told = table + [tuple(drawing.draw.choices(plan.all_held, k=2)) for _ in range(more)]
                    for _ in range(more):
                        told += [(one, other) for _, one in told for other in plan.behind(one, together)
                                 if (one, other) not in told]
                    if more == 2:
                        told = told[1:]
                    drawing.draw.shuffle(told)
                    answers.append(judge(part, told, together))
                    self.assertIs(answers[-1], plan.judge(told, together))
        self.assertGreater(min(answers.count(True), answers.count(False)), 50)


if __name__ == "__main__":
    unittest.main()
