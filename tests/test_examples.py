"""The examples of the document, as they stand there."""

import doctest
import os
import unittest

VALUES = '''
>>> from elderruns.values import named, now, number, passed
>>> asked = (named("n") * 2 + passed() - now("n")).rest(5)
>>> [asked.names, asked.nows, asked.has_passed, asked.at({"n": 4}, {"n": 1}, 3), (~named("n")).at({"n": 0}, {}, 0), named("n") + 1 == named("n") + number(1), now("n") == named("n")]
[['n'], ['n'], True, 0, 1, True, False]
'''
PARTS = '''
>>> from elderruns.parts import Part, handler, memo
>>> from elderruns.values import named, now
>>> cells = [("n", 3), ("open", 2)]
>>> up, turn = handler("up", 1, [("n", named("n") + 1)], ["n"]), handler("turn", 1, [("open", ~now("open"))], [])
>>> part = Part(cells, [memo("seen", named("n") * named("open"), ["n"]), up, turn], [named("seen")])
>>> [part.slots, part.handlers, part["seen"], part.full()["up"], part.having("seen", ["open", "n"])["seen"], len(part), up.name]
[['seen', 'up', 'turn'], [('up', 1), ('turn', 1)], ['n'], ['n', 'open', 'seen'], ['n', 'open'], 3, 'up']
'''
PLAYS = '''
>>> from elderruns.parts import Part, handler, memo
>>> from elderruns.plays import all_steps, first_unlike, judge, machine, makings, play, play_fresh, wrong_row
>>> from elderruns.values import named, now
>>> turn = handler("turn", 1, [("open", ~now("open"))], [])
>>> part = Part([("n", 3), ("open", 2)], [memo("seen", named("n") * named("open"), ["n"]), handler("up", 1, [("n", named("n") + 1)], ["n"]), turn], [named("seen")])
>>> row = [[("up", 0)], [("turn", 0)], [("up", 0), ("up", 0)]]
>>> [play(part, row), play_fresh(part, row), makings(part, row), wrong_row(part), wrong_row(part.full()), wrong_row(part.having("up", []).having("seen", ["n", "open"]))]
[[[0], [0], [0], [2]], [[0], [0], [1], [2]], [['seen', 'up', 'turn'], ['seen', 'up'], [], ['seen', 'up']], [[('up', 0)], [('turn', 0)]], None, [[('up', 0)]]]
>>> flag = Part([("open", 2)], [turn], [named("open")])
>>> [all_steps(flag), all_steps(flag, together=True), judge(flag, all_steps(flag)), machine(flag), first_unlike(flag, Part([("open", 2)], [turn], [0]))]
[[((0,), (1,)), ((1,), (0,))], [((0,), (0,)), ((0,), (1,)), ((1,), (0,)), ((1,), (1,))], True, [([0], [1]), ([1], [0])], [[('turn', 0)]]]
'''
LISTS = '''
>>> from elderruns.lists import idle, is_right_list, least_lists, missing_row, tightened, turning
>>> from elderruns.parts import Part, handler, memo
>>> from elderruns.values import named, now
>>> turn = handler("turn", 1, [("open", ~now("open"))], [])
>>> part = Part([("n", 3), ("open", 2)], [memo("seen", named("n") * named("open"), ["n"]), handler("up", 1, [("n", named("n") + 1)], ["n"]), turn], [named("seen")])
>>> [turning(part, "seen"), least_lists(part, "seen"), least_lists(part, "up"), least_lists(part, "turn"), is_right_list(part, "seen", ["n"]), missing_row(part, "seen", ["open"]), tightened(part)["seen"], idle(part.full())]
[[['n'], ['open']], [['n', 'open']], [['n']], [[]], False, [[('turn', 0)], [('up', 0)]], ['n', 'open'], [('up', 'open'), ('up', 'seen'), ('turn', 'n'), ('turn', 'open'), ('turn', 'seen')]]
'''
LATE = '''
>>> from elderruns.late import can_wait, cut_rows, late_rows
>>> from elderruns.parts import Part, handler
>>> from elderruns.values import named, now
>>> part = Part([("n", 3)], [handler("up", 1, [("n", named("n") + 1)], ["n"]), handler("more", 1, [("n", now("n") + 1)], [])], [named("n")])
>>> [late_rows(part, "up"), late_rows(part, "more"), can_wait(part, "more"), cut_rows(part)]
[([], [[('up', 0)]]), None, True, ([], [('up', 0), ('up', 0)])]
'''
SCREENS = '''
>>> from elderruns.parts import Part, handler, memo
>>> from elderruns.screens import Screen
>>> from elderruns.values import named, now
>>> part = Part([("n", 3)], [memo("twice", named("n") * 2, []), handler("up", 1, [("n", named("n") + 1)], ["n"])], [named("twice"), named("n")])
>>> screen = Screen(part)
>>> first = screen["up"]
>>> [screen("up"), screen["twice"], screen.is_right, screen.batch([("up", 0), ("up", 0)]), first(), screen["up"].run, first.run, screen.runs, screen.undo(), screen.cells]
[[0, 1], 0, False, [0, 2], [0, 1], 3, 0, 4, None, [2]]
'''
TEXTS = '''
>>> from elderruns.parts import Part, handler, memo
>>> from elderruns.readings import read_part, read_value
>>> from elderruns.texts import show_part, show_value
>>> from elderruns.values import named, now, passed
>>> part = Part([("n", 3)], [memo("twice", named("n") * 2, ["n"]), handler("up", 2, [("n", now("n") + passed())], [])], [named("twice"), 7])
>>> show_part(part)
'cells n:3; memo twice (n * 2) [n]; on up:2 {n < (!n + ?)} []; show twice 7'
>>> [show_value(~(named("a") - -3).less(now("b"))), read_part(show_part(part)) == part, read_value("(? + 1)") == passed() + 1]
['~((a - -3) < !b)', True, True]
'''
README = os.path.join(os.path.dirname(os.path.dirname(os.path.abspath(__file__))), "README.md")


class Examples(unittest.TestCase):
    def check(self, text, many):
        test = doctest.DocTestParser().get_doctest(text, {}, "example", None, 0)
        told = []
        found = doctest.DocTestRunner().run(test, out=told.append)
        self.assertEqual((found.failed, found.attempted), (0, many), "".join(told))

    def test_values(self):
        self.check(VALUES, 3)

    def test_parts(self):
        self.check(PARTS, 6)

    def test_plays(self):
        self.check(PLAYS, 9)

    def test_lists(self):
        self.check(LISTS, 6)

    def test_late(self):
        self.check(LATE, 5)

    def test_screens(self):
        self.check(SCREENS, 7)

    def test_texts_and_readings(self):
        self.check(TEXTS, 7)

    def test_readme(self):
        with open(README, encoding="utf-8") as file:
            blocks = file.read().split("```\n")[1::2]
        self.check("\n".join(one for one in blocks if one.startswith(">>>")), 19)


if __name__ == "__main__":
    unittest.main()
