"""The section elderruns/texts.py: the texts of values and of parts."""

import unittest

from beside import value_of
from drawn import Drawing, drawn
from elderruns.lists import tightened
from elderruns.parts import Part, handler, memo
from elderruns.texts import show_part, show_value
from elderruns.values import named, now, number, passed
from written import written, written_plan

A, B, N = named("a"), named("b"), named("n")


class Values(unittest.TestCase):
    def test_without_signs(self):
        for value, text in ((number(0), "0"), (number(7), "7"), (number(-3), "-3"), (named("n"), "n"),
                            (named("abcdefgh"), "abcdefgh"), (now("n"), "!n"), (now("abcdefgh"), "!abcdefgh"),
                            (passed(), "?"), (number(10 ** 20 - 1), "9" * 20), (number(1 - 10 ** 20), "-" + "9" * 20)):
            self.assertEqual(show_value(value), text)
            self.assertEqual(show_value(value=value), text)

    def test_each_sign(self):
        for value, text in ((A + B, "(a + b)"), (A - B, "(a - b)"), (A * B, "(a * b)"), (A // 2, "(a // 2)"),
                            (A.rest(2), "(a mod 2)"), (A & B, "(a & b)"), (A | B, "(a | b)"), (A.same(B), "(a = b)"),
                            (A.less(B), "(a < b)"), (~A, "~a"), (~now("a"), "~!a"), (~passed(), "~?"), (~number(3), "~3"),
                            (~number(-3), "~-3"), (~~A, "~~a"), (~(A + B), "~(a + b)"), (~A + ~B, "(~a + ~b)")):
            self.assertEqual(show_value(value), text)

    def test_with_integers(self):
        for value, text in ((A + 1, "(a + 1)"), (1 + A, "(1 + a)"), (A - -3, "(a - -3)"), (-3 - A, "(-3 - a)"),
                            (2 * A, "(2 * a)"), (0 & A, "(0 & a)"), (A & 0, "(a & 0)"), (1 | A, "(1 | a)"),
                            (A.same(-1), "(a = -1)"), (A.less(5), "(a < 5)"), (number(7) // 2, "(7 // 2)"),
                            (number(-7).rest(999), "(-7 mod 999)"), (number(1) + 2, "(1 + 2)")):
            self.assertEqual(show_value(value), text)

    def test_nested_ones(self):
        self.assertEqual(show_value((A + B) + N), "((a + b) + n)")
        self.assertEqual(show_value(A + (B + N)), "(a + (b + n))")
        self.assertEqual(show_value(((A - 1) // 2).rest(3)), "(((a - 1) // 2) mod 3)")
        self.assertEqual(show_value(~(A - -3).less(now("b"))), "~((a - -3) < !b)")
        self.assertEqual(show_value((now("a") * passed()).same(~(B | N)) & 1), "(((!a * ?) = ~(b | n)) & 1)")

    def test_words_as_names(self):
        self.assertEqual(show_value(named("mod").rest(3)), "(mod mod 3)")
        self.assertEqual(show_value(now("show") + named("on")), "(!show + on)")

    def test_thirteen_signs(self):
        one, other, turned = N, N, N
        for _ in range(13):
            one, other, turned = one + 1, 1 + other, ~turned
        self.assertEqual(show_value(one), "(" * 13 + "n" + " + 1)" * 13)
        self.assertEqual(show_value(other), "(1 + " * 13 + "n" + ")" * 13)
        self.assertEqual(show_value(turned), "~" * 13 + "n")

    def test_drawn_ones(self):
        for seed in range(300):
            tree = Drawing(seed).tree(True, seed % 14)
            self.assertEqual(show_value(value_of(tree)), written(tree))


class Parts(unittest.TestCase):
    def test_little_ones(self):
        for part, text in ((Part([], [], []), "cells; show"), (Part([("n", 3)], [], []), "cells n:3; show"),
                           (Part([], [], [7]), "cells; show 7"), (Part([], [], [7, number(-1)]), "cells; show 7 -1"),
                           (Part([("n", 1), ("b", 999)], [], [named("b"), named("n")]), "cells n:1 b:999; show b n"),
                           (Part([], [memo("m", 4, [])], []), "cells; memo m 4 []; show"),
                           (Part([], [handler("wait", 1, [], [])], []), "cells; on wait:1 {} []; show")):
            self.assertEqual(show_part(part), text)
            self.assertEqual(show_part(part=part), text)

    def test_slots(self):
        slots = [memo("m", N * 2, ["n"]), handler("up", 2, [("n", now("n") + passed())], []),
                 memo("w", ~named("m"), ["m", "n"]), handler("go", 999, [("n", N), ("b", 0), ("n", -1)], ["w"])]
        self.assertEqual(show_part(Part([("n", 3), ("b", 2)], slots, [named("w") + 1, 0])),
                         "cells n:3 b:2; memo m (n * 2) [n]; on up:2 {n < (!n + ?)} []; memo w ~m [n m]; "
                         "on go:999 {n < n, b < 0, n < -1} [w]; show (w + 1) 0")

    def test_lists_in_order(self):
        cells, slots = [("n", 3), ("b", 2)], [memo("m", 0, []), handler("z", 1, [], []), memo("a", 0, [])]
        for names in (["a", "m", "b", "n"], ["n", "b", "m", "a"], ["b", "a", "n", "m"]):
            part = Part(cells, slots + [handler("up", 1, [], names)], [])
            self.assertTrue(show_part(part).endswith("; on up:1 {} [n b m a]; show"))
        part = Part(cells, slots + [handler("up", 1, [], ["a", "b"])], [])
        self.assertTrue(show_part(part).endswith("; on up:1 {} [b a]; show"))
        self.assertTrue(show_part(part.having("up", ["m", "n"])).endswith("; on up:1 {} [n m]; show"))
        self.assertEqual(show_part(part.full()), "cells n:3 b:2; memo m 0 [n b]; on z:1 {} [n b m]; memo a 0 [n b m]; "
                                                 "on up:1 {} [n b m a]; show")

    def test_words_as_names(self):
        part = Part([("memo", 2)], [memo("on", named("memo"), ["memo"]), handler("cells", 1, [("memo", 1)], ["on"])],
                    [named("on")])
        self.assertEqual(show_part(part), "cells memo:2; memo on memo [memo]; on cells:1 {memo < 1} [on]; show on")

    def test_drawn_ones(self):
        for plan, _ in drawn(0, 200):
            part = plan.built()
            self.assertEqual(show_part(part), written_plan(plan))
            self.assertEqual(show_part(part), written_plan(plan))

    def test_equal_parts_have_one_text_and_unlike_ones_unlike_texts(self):
        parts = [plan.built() for plan, _ in drawn(0, 40)]
        parts += [part.full() for part in parts] + [tightened(part) for part in parts]
        for one in parts:
            for other in parts:
                self.assertEqual(one == other, show_part(one) == show_part(other))


if __name__ == "__main__":
    unittest.main()
