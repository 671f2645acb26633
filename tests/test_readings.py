"""The section elderruns/readings.py: values and parts that are read from their texts."""

import random
import re
import time
import unittest

from beside import value_of
from drawn import Drawing, drawn
from elderruns.errors import RunError, Unreadable
from elderruns.lists import least_lists, tightened
from elderruns.parts import Part, Slot, handler, memo
from elderruns.plays import makings, play, play_fresh, wrong_row
from elderruns.readings import read_part, read_value
from elderruns.screens import Screen
from elderruns.texts import show_part, show_value
from elderruns.values import Value, named, now, number, passed
from written import read_plan, read_tree, told_tree, written, written_plan

N, B = named("n"), named("b")
LETTERS = "()!?~+-*/&|=<:;,[]{} abmn0129"
# All that may stand in a text that is handed in.
ALL_LETTERS = "".join(chr(code) for code in range(32, 127) if code != 37)


class Reading(unittest.TestCase):
    def none(self, read, *texts):
        """Check that nothing has one of some texts."""
        for text in texts:
            for call in (lambda: read(text), lambda: read(text=text)):
                with self.assertRaises(RunError, msg=text) as caught:
                    call()
                self.assertIs(type(caught.exception), Unreadable, text)
                self.assertEqual(caught.exception.value, text)


def with_another_word(draw, text):
    """Return a text in which a name or a number stands for another one."""
    words = list(re.finditer("[a-z]+|[0-9]+", text))
    old, new = draw.choice(words), draw.choice(words)
    return text[:old.start()] + new[0] + text[old.end():]


def changed(draw, text, letters):
    """Return a text in which little is changed."""
    at, kind = draw.randrange(len(text)), draw.randrange(5)
    if kind == 0:
        return text[:at] + text[at + 1:]
    if kind == 1:
        return text[:at] + draw.choice(letters) + text[at:]
    if kind == 2:
        return text[:at] + draw.choice(letters) + text[at + 1:]
    if kind == 3:
        return text[:at] + text[at:at + 2][::-1] + text[at + 2:]
    end = draw.randint(at, len(text))
    return text[:at] + text[end:] if draw.random() < 0.5 else text[:end] + text[at:]


class Values(Reading):
    def test_what_is_shown_is_read(self):
        for text, value in (("0", number(0)), ("7", number(7)), ("-12", number(-12)), ("n", N), ("abcdefgh", named("abcdefgh")),
                            ("!n", now("n")), ("?", passed()), ("~n", ~N), ("~~n", ~~N), ("~-3", ~number(-3)),
                            ("~!b", ~now("b")), ("~?", ~passed()), ("(n + b)", N + B), ("(n - b)", N - B),
                            ("(n * b)", N * B), ("(n // 2)", N // 2), ("(n mod 2)", N.rest(2)), ("(n & b)", N & B),
                            ("(n | b)", N | B), ("(n = b)", N.same(B)), ("(n < b)", N.less(B)), ("(? + 1)", passed() + 1),
                            ("(1 - n)", 1 - N), ("(n - -3)", N - -3), ("(7 // 2)", number(7) // 2), ("(1 + 2)", number(1) + 2),
                            ("(mod mod 3)", named("mod").rest(3)), ("(a = (b = n))", named("a").same(B.same(N))),
                            ("((n + b) + 1)", (N + B) + 1), ("(n + (b + 1))", N + (B + 1)), ("~(n + b)", ~(N + B)),
                            ("(~n + b)", ~N + B), ("((!n * ?) // 3)", (now("n") * passed()) // 3)):
            for found in (read_value(text), read_value(text=text)):
                self.assertIsInstance(found, Value)
                self.assertEqual(found, value)
                self.assertEqual(show_value(found), text)

    def test_what_is_read_goes_alike(self):
        value = read_value("((? * 2) + (n - !b))")
        self.assertEqual((value.names, value.nows, value.has_passed), (["n"], ["b"], True))
        self.assertEqual(value.at({"n": 5}, {"b": 2}, 4), 11)
        self.assertEqual(show_value(value + 1), "(((? * 2) + (n - !b)) + 1)")
        self.assertEqual(read_value("(-7 // 2)").at({}, {}, 0), -4)
        self.assertEqual(read_value("(-7 mod 3)").at({}, {}, 0), 2)

    def test_drawn_ones(self):
        for seed in range(300):
            drawing = Drawing(seed)
            tree = drawing.tree(True, seed % 13)
            value, again = value_of(tree), read_value(written(tree))
            self.assertEqual(value, again)
            self.assertEqual(show_value(again), written(tree))
            held = {name: drawing.draw.randint(-9, 9) for name in drawing.names}
            self.assertEqual(value.at(held, held, 2), again.at(held, held, 2))

    def test_empty_texts_and_spaces(self):
        self.none(read_value, "", " ", "  ", "n ", " n", "3 ", " 3", "! n", "~ n", "( n + b)", "(n + b )", "(n  + b)",
                  "(n +  b)", "(n+ b)", "(n +b)", "(n+b)", "(n + b) ", " (n + b)", "(n)", "((n + b))", "()", "( + )",
                  "(n +)", "(n + )", "(+ b)", "( + b)", "- 3", "? ", "n b", "n + b", "(n + b + n)", "(n b)")

    def test_brackets(self):
        self.none(read_value, "(", ")", "(n + b", "n + b)", "(n + b))", "((n + b)", "(n + b)(n + b)", "[n]", "{n}",
                  "(n)", "~()", ")n + b(", "((n + b) + n", "(n + (b + n)")

    def test_unknown_signs(self):
        self.none(read_value, "(n / b)", "(n ** b)", "(n == b)", "(n > b)", "(n ^ b)", "(n <= b)", "(n && b)", "(n rest 2)",
                  "(n same b)", "(n less b)", "(n Mod 2)", "(n mo 2)", "(n modd 2)", "(n /// 2)", "(n ~ b)", "(n ! b)",
                  "(n ? b)", "+n", "-n", "-?", "-!n", "-(n + b)", "--3", "+3", "!", "~", "!3", "!?", "!!n", "!~n", "!(n + b)",
                  "??", "?n", "n?", "n!", "n~", "n3", "3n", "#", "n.", "'n'", "3.0", "1e3", "0x3", "1_000", "n\\")

    def test_integers(self):
        self.none(read_value, "00", "01", "007", "-0", "-00", "-01", "(n + 01)", "(n + -0)", "(n // 02)", "-",
                  "1" * 21, "-" + "1" * 21, "0" * 21, "(n + " + "9" * 21 + ")", "(n // " + "1" * 21 + ")", "9" * 3000, "1 0",
                  "1,0")
        for digits in (1, 2, 19, 20):
            for sign in ("", "-"):
                text = sign + "9" * digits
                self.assertEqual(read_value(text), number(int(text)))
                self.assertEqual(read_value("(n + " + text + ")"), N + int(text))
        self.assertEqual(read_value("(n mod " + "9" * 20 + ")"), N.rest(10 ** 20 - 1))

    def test_names(self):
        self.none(read_value, "abcdefghi", "!abcdefghi", "a" * 3000, "A", "aB", "a_b", "_a", "a1", "!A", "!a1", "a-b", "a.b",
                  "(abcdefghi + 1)", "(1 + abcdefghi)")

    def test_divisors(self):
        self.none(read_value, "(n // 0)", "(n mod 0)", "(n // -1)", "(n mod -1)", "(n // -0)", "(n // b)", "(n mod b)",
                  "(n // ?)", "(n mod !b)", "(n // (1 + 1))", "(n // ~0)", "(n // )", "(n // 00)", "((n // 0) + 1)",
                  "(n mod (b mod 2))", "~(n mod 0)")
        self.assertEqual(read_value("(n // 1)"), N // 1)
        self.assertEqual(read_value("(n mod 1)"), N.rest(1))

    def test_twelve_signs_and_thirteen(self):
        one, other, turned, both = N, N, N, N
        for _ in range(12):
            one, other, turned = one + 1, 1 + other, ~turned
        for _ in range(6):
            both = ~(both // 2)
        for value in (one, other, turned, both):
            self.assertEqual(read_value(show_value(value)), value)
            for more in (~value, value + 1, 1 + value, value // 2, value.same(N), N.less(value)):
                self.none(read_value, show_value(more))
        three = ~(N + 1) * 2
        wide = (three + three) - (three + B)
        self.assertEqual(read_value(show_value(wide)), wide)
        self.none(read_value, show_value(~wide), show_value((three + three) - (three + ~B)))

    def test_hundreds_of_brackets(self):
        begun = time.perf_counter()
        self.none(read_value, "(" * 3000, ")" * 3000, "~" * 3000, "~" * 2999 + "n", "!" * 3000, "-" * 3000, "?" * 3000,
                  "(~" * 1500, "(n + " * 600, "(n + " * 500 + "n" + ")" * 500, "(" * 428 + "n" + " + b)" * 428,
                  "(" * 1000 + "n" + ")" * 1000, "[" * 3000, " " * 3000)
        self.none(read_part, "cells; show " + "(" * 2900, "cells; show " + "~" * 2900 + "1", "cells" + "; " * 1400,
                  "cells; memo m " + "(1 + " * 500, "cells; memo m " + "(" * 400 + "1" + " + 1)" * 400 + " []; show",
                  "cells n:2; on up:1 {n < " + "~" * 2000 + "1} []; show", "{" * 3000, "; show" * 500, "cells" * 600)
        self.assertLess(time.perf_counter() - begun, 2)

    def test_changed_texts(self):
        draw, counts = random.Random(5), {True: 0, False: 0}
        for seed in range(400):
            text = written(Drawing(seed).tree(True, seed % 8))
            for letters in (LETTERS, LETTERS, ALL_LETTERS):
                text = changed(draw, text, letters) or "n"
                tree = read_tree(text)
                counts[tree is None] += 1
                if tree is None:
                    self.none(read_value, text)
                else:
                    self.assertEqual(read_value(text), value_of(tree))
                    self.assertEqual(show_value(read_value(text)), text)
        self.assertGreater(min(counts.values()), 100)

    def test_all_short_texts(self):
        known = 0
        for one in LETTERS:
            for other in LETTERS:
                for last in ("", "0", "n", "~", ")"):
                    text = one + other + last
                    tree = told_tree(text)
                    if tree is None:
                        self.none(read_value, text)
                    else:
                        known += 1
                        self.assertEqual(read_value(text), value_of(tree))
        self.assertGreater(known, 50)


PART = "cells n:3 b:2; memo m (n * 2) [n b]; on up:2 {n < (!n + ?), b < ~b} [b m]; memo w ~m [m]; show m (w + n)"


class Parts(Reading):
    def swapped(self, *pairs):
        """Return the text of the part in which something is put for something else."""
        found = PART
        for old, new in pairs:
            self.assertIn(old, found)
            found = found.replace(old, new, 1)
        return found

    def wrong(self, *pairs):
        """Check that no part has each of the texts that is changed at one place."""
        for old, new in pairs:
            self.none(read_part, self.swapped((old, new)))

    def test_what_is_shown_is_read(self):
        slots = [memo("m", N * 2, ["b", "n"]), handler("up", 2, [("n", now("n") + passed()), ("b", ~B)], ["m", "b"]),
                 memo("w", ~named("m"), ["m"])]
        part = Part([("n", 3), ("b", 2)], slots, [named("m"), named("w") + N])
        for found in (read_part(PART), read_part(text=PART)):
            self.assertIsInstance(found, Part)
            self.assertEqual(found, part)
            self.assertEqual(show_part(found), PART)
            self.assertEqual((found.cells, found.slots, found.handlers, found["up"], len(found)),
                             ([("n", 3), ("b", 2)], ["m", "up", "w"], [("up", 2)], ["b", "m"], 3))

    def test_little_ones(self):
        for part in (Part([], [], []), Part([("n", 3)], [], []), Part([], [], [7, -7]), Part([], [memo("m", 4, [])], []),
                     Part([], [handler("wait", 1, [], [])], []), Part([("n", 999)], [handler("up", 999, [], ["n"])], [N]),
                     Part([("n", 1)], [memo("m", -10 ** 20 + 1, [])], [named("m")]),
                     Part([("memo", 2), ("on", 2), ("show", 2), ("cells", 2)],
                          [memo("mod", named("memo").rest(2), ["memo", "show"])], [named("show"), named("on")])):
            self.assertEqual(read_part(show_part(part)), part)

    def test_drawn_ones_go_alike(self):
        for plan, drawing in drawn(0, 150):
            part, again = plan.built(), read_part(written_plan(plan))
            self.assertEqual(again, part)
            self.assertEqual(show_part(again), written_plan(plan))
            row = drawing.row(plan)
            for ask in (play, play_fresh, makings):
                self.assertEqual(ask(again, row), ask(part, row))
            self.assertEqual(wrong_row(again, True), wrong_row(part, True))
            for name in part.slots:
                self.assertEqual(least_lists(again, name), least_lists(part, name))
            screen, other = Screen(again), Screen(part)
            for events in row:
                self.assertEqual(screen.batch(events), other.batch(events))
            self.assertEqual(screen, other)

    def test_parts_that_the_program_returns(self):
        for plan, _ in drawn(150, 180):
            for part in (plan.built().full(), tightened(plan.built(), True)):
                self.assertEqual(read_part(show_part(part)), part)

    def test_twelve_signs_for_each_value(self):
        values = ["~" * 12 + "1", "(" * 12 + "1" + " + 1)" * 12]
        text = "cells n:2; memo m {} []; on up:1 {{n < {}, n < {}}} []; show {} {}"
        told = text.format(values[0], values[1], values[0], values[1], values[0])
        self.assertEqual(show_part(read_part(told)), told)
        for place in range(5):
            many = [values[place % 2]] * 5
            many[place] = "~" + many[place]
            self.none(read_part, text.format(*many))

    def test_spaces_and_what_is_missing(self):
        self.none(read_part, "", " ", "cells", "show", "; show", "cells;show", "cells ; show", "cells; show ", "cells;  show",
                  " cells; show", "cells; show;", "cells; show; show", "cell; show", "Cells; show", "cells; shows",
                  "cells show", "cells, show", "cells; show\\", "n", "cells n:3", PART + " ", PART + ";", " " + PART)
        self.wrong((" n:3", "  n:3"), (" n:3", "n:3"), ("n:3", "n: 3"), ("n:3", "n :3"), ("n:3", "n3"), ("n:3", "n"),
                   ("n:3", ":3"), ("n:3", "n:"), ("; memo", ";memo"), ("; memo", " memo"), ("; memo", ";  memo"),
                   ("memo m", "memo  m"), ("m (n", "m  (n"), ("2) [", "2)["), ("2) [", "2)  ["), ("[n b]", "[n  b]"),
                   ("[n b]", "[ n b]"), ("[n b]", "[n b ]"), ("[n b]", "[n, b]"), ("[n b]", "[nb]"), ("[n b]", "n b"),
                   ("[n b]", "[n b"), ("[n b]", "n b]"), (" [n b]", ""), ("; on", "; memo"), ("; memo", "; on"),
                   (" {n", "{n"), (" {n", "  {n"), ("{n", "{ n"), ("~b}", "~b }"), ("~b} ", "~b}"), ("n < (", "n <("),
                   ("n < (", "n< ("), ("n < (", "n = ("), ("n < (", "n ("), ("), b", "),b"), ("), b", ") b"),
                   ("), b", "),  b"), ("), b", "); b"), ("~b}", "~b, }"), ("{n", "{, n"), ("b < ~b", ""), ("b < ~b", "b < "),
                   ("up:2", "up"), ("up:2", "up:"), ("up:2", ":2"), ("up:2", "up: 2"), ("; show", ";show"), ("; show", ""),
                   ("show m", "show  m"), ("show m", "showm"), ("show m", "show m,"), ("cells ", ""), ("cells ", "cells; "))

    def test_names(self):
        self.wrong(("n:3", "abcdefghi:3"), ("n:3", "N:3"), ("memo m", "memo abcdefghi"), ("memo m", "memo M"),
                   ("memo w", "memo abcdefghi"), ("on up", "on Up"), ("on up", "on upupupupu"), ("on up", "on up1"),
                   ("memo w", "memo w2"), ("on up", "on "), ("memo w", "memo "))
        self.assertEqual(read_part(self.swapped(("memo w", "memo abcdefgh"), ("(w +", "(abcdefgh +"))).slots,
                         ["m", "up", "abcdefgh"])

    def test_sizes_and_numbers(self):
        for old in ("n:3", "up:2"):
            name = old[:-1]
            for size in ("0", "-1", "-0", "00", "03", "003", "1000", "9999", "-100", "+3", "three", "n", "3.0", "0999"):
                self.wrong((old, name + size))
            for size in ("1", "10", "999"):
                text = self.swapped((old, name + size))
                self.assertEqual(show_part(read_part(text)), text)

    def test_names_told_twice(self):
        self.wrong(("b:2", "n:2"), ("memo m", "memo n"), ("memo w", "memo m"), ("memo w", "memo up"), ("on up", "on b"),
                   ("on up", "on m"), ("[n b]", "[n n]"), ("[n b]", "[n b b]"), ("[b m]", "[b m m]"), ("[m]", "[m m]"))

    def test_unknown_names(self):
        self.wrong(("(n *", "(x *"), ("(n *", "(m *"), ("(n *", "(w *"), ("(n *", "(up *"), ("~b}", "~w}"), ("~b}", "~up}"),
                   ("~b}", "~x}"), ("!n", "!x"), ("!n", "!m"), ("!n", "!up"), ("{n", "{x"), ("{n", "{m"), (", b", ", w"),
                   ("[n b]", "[n x]"), ("[n b]", "[m]"), ("[n b]", "[n b m]"), ("[b m]", "[b w]"), ("[b m]", "[b up]"),
                   ("[m]", "[w]"), ("[m]", "[up]"), ("show m", "show x"), ("show m", "show up"), ("~m", "~w"))
        text = self.swapped(("~b}", "~m}"), ("~m [", "~b ["), ("show m", "show b"))
        self.assertEqual(show_part(read_part(text)), text)

    def test_now_and_the_argument_elsewhere(self):
        self.wrong(("(n *", "(!n *"), ("(n *", "(? *"), ("~m", "!n"), ("~m", "~?"), ("show m", "show !n"), ("show m", "show ?"),
                   ("(w +", "(!b +"), ("(w +", "(? +"), ("~m", "!m"))

    def test_lists_in_another_order(self):
        self.wrong(("[n b]", "[b n]"), ("[b m]", "[m b]"))
        text = self.swapped(("[m]", "[n b m]"))
        self.assertEqual(read_part(text)["w"], ["n", "b", "m"])
        for names in ("[b n m]", "[n m b]", "[m n b]", "[m b n]", "[b m n]"):
            self.wrong(("[m]", names))

    def test_values(self):
        self.wrong(("(n * 2)", "(n * 02)"), ("(n * 2)", "(n // 0)"), ("(n * 2)", "(n mod b)"), ("(n * 2)", "n * 2"),
                   ("(n * 2)", "(n * " + "1" * 21 + ")"), ("(n * 2)", ""), ("~b}", "}"), ("~b}", "~-0}"), ("show m", "show -0"),
                   ("show m", "show (m)"), ("show m", "show m m)"), ("~m", "~" * 13 + "m"))
        for text in ("(n * " + "9" * 20 + ")", "(n // 999)", "-1", "~" * 12 + "n"):
            told = self.swapped(("(n * 2)", text))
            self.assertEqual(show_part(read_part(told)), told)

    def test_values_are_no_parts_and_parts_no_values(self):
        self.none(read_value, PART, "cells; show", "m [n]", "memo m n []")
        self.none(read_part, "n", "(n + 1)", "cells")

    def test_changed_texts(self):
        draw, counts = random.Random(7), {True: 0, False: 0}
        for seed in range(500):
            first = written_plan(Drawing(seed % 60, signs=2).plan())
            for text in (with_another_word(draw, first), changed(draw, first, LETTERS), changed(draw, first, ALL_LETTERS)):
                plan = read_plan(text)
                counts[plan is None] += 1
                if plan is None:
                    self.none(read_part, text)
                else:
                    self.assertEqual(read_part(text), plan.built())
                    self.assertEqual(show_part(read_part(text)), text)
        self.assertGreater(min(counts.values()), 100)

    def test_long_texts(self):
        begun = time.perf_counter()
        names = [one + other for one in "abcdefghijklmnopqrstuvwxyz" for other in "abcdefghijklmnopqrst"]
        texts = ["cells" + "".join(" " + name + ":1" for name in names[:490]) + "; show " + " ".join(names[:100]),
                 "cells" + "".join("; memo " + name + " 1 []" for name in names[:200]) + "; show",
                 "cells" + "".join("; on " + name + ":1 {} []" for name in names[:150]) + "; show",
                 "cells" + "".join(" " + name + ":9" for name in names[:250]) + "; on zz:9 {} [" + " ".join(names[:250]) + "]; show",
                 "cells" + "".join(" " + name + ":9" for name in names[:20]) + "; on zz:9 {"
                 + ", ".join(name + " < 1" for name in names[:20] * 12) + "} []; show",
                 "cells; show" + " 1" * 1400]
        for text in texts:
            self.assertLessEqual(len(text), 3000)
            self.assertEqual(show_part(read_part(text)), text)
            self.none(read_part, text + " x")
        self.assertLess(time.perf_counter() - begun, 2)


class Unchanged(Reading):
    def test_each_reading_is_its_own(self):
        one, other = read_part(PART), read_part(PART)
        self.assertEqual(one, other)
        one["m"].clear()
        one.cells.clear()
        self.assertEqual(other.having("m", ["n"])["m"], ["n"])
        self.assertEqual(show_part(one), PART)
        self.none(read_part, PART + " x")
        self.assertEqual(read_part(PART), other)

    def test_read_values_in_slots_and_parts(self):
        slot = memo("m", read_value("(n * 2)"), ["n"])
        self.assertIsInstance(slot, Slot)
        part = Part([("n", 3)], [slot, handler("up", 1, [("n", read_value("(!n + 1)"))], [])], [read_value("(m + n)")])
        self.assertEqual(part, read_part("cells n:3; memo m (n * 2) [n]; on up:1 {n < (!n + 1)} []; show (m + n)"))
        self.assertEqual(play(part, [[("up", 0)], [("up", 0)]]), [[0], [3], [6]])


if __name__ == "__main__":
    unittest.main()
