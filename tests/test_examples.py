"""The examples of the document, as they stand there."""

import doctest
import os
import unittest

VALUES = '''
>>> from elderruns.values import named, now, number, passed
>>> asked = (named("n") * 2 + passed() - now("n")).rest(5)
>>> [asked.names, asked.nows, asked.has_passed, asked.at({"n": 4}, {"n": 1}, 3), (~named("n")).at({"n": 0}, {}, 0), named("n") + 1 == named("n") + number(1), now("n") == named("n")]
[['n'], ['n'], True, 0, 1, True, False]
'''
PARTS = '''
>>> from elderruns.parts import Part, handler, memo
>>> from elderruns.values import named, now
>>> cells = [("n", 3), ("open", 2)]
>>> up, turn = handler("up", 1, [("n", named("n") + 1)], ["n"]), handler("turn", 1, [("open", ~now("open"))], [])
>>> part = Part(cells, [memo("seen", named("n") * named("open"), ["n"]), up, turn], [named("seen")])
>>> [part.slots, part.handlers, part["seen"], part.full()["up"], part.having("seen", ["open", "n"])["seen"], len(part), up.name]
[['seen', 'up', 'turn'], [('up', 1), ('turn', 1)], ['n'], ['n', 'open', 'seen'], ['n', 'open'], 3, 'up']
'''
README = os.path.join(os.path.dirname(os.path.dirname(os.path.abspath(__file__))), "README.md")


class Examples(unittest.TestCase):
    def check(self, text, many):
        test = doctest.DocTestParser().get_doctest(text, {}, "example", None, 0)
        told = []
        found = doctest.DocTestRunner().run(test, out=told.append)
        self.assertEqual((found.failed, found.attempted), (0, many), "".join(told))

    def test_values(self):
        self.check(VALUES, 3)

    def test_parts(self):
        self.check(PARTS, 6)

    def test_readme(self):
        with open(README, encoding="utf-8") as file:
            blocks = file.read().split("```\n")[1::2]
        self.check("\n".join(one for one in blocks if one.startswith(">>>")), 6)


if __name__ == "__main__":
    unittest.main()
