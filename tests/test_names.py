"""Promise 4: names are one to eight letters from a to z, wherever one is given."""

import unittest

from elderruns.errors import InvalidName
from elderruns.parts import Part, Slot, handler, memo
from elderruns.values import Value, named, now

RIGHT = ["a", "z", "m", "az", "abcdefgh", "zzzzzzzz", "aaaaaaa", "qrstuvwx", "ijklmnop"]
WRONG = ["", "abcdefghi", "zzzzzzzzz", "a" * 100, "`", "{", "a`", "z{", "`a", "{z", "A", "Z", "aB", "Ab", "abcdefgH",
         "@", "[", "0", "9", "a1", "1a", " ", "a ", " a", "a b", "a_b", "_", "-", "a-b", "!", "~", "a.b", "a\n", "\n",
         "a\t", "n,m", "?", "abcdefg ", "       a"]


def makers():
    """Return the functions that take a name, each with what it makes."""
    return [
        (named, lambda one: named(name=one)),
        (now, lambda one: now(name=one)),
        (lambda one: memo(one, 0, []), lambda one: memo(name=one, value=0, names=[])),
        (lambda one: handler(one, 1, [], []), lambda one: handler(name=one, number=1, puts=[], names=[])),
        (lambda one: Part([(one, 1)], [], []), lambda one: Part(cells=[(one, 1)], slots=[], shown=[])),
    ]


class Names(unittest.TestCase):
    def test_right_names(self):
        for by_position, by_name in makers():
            for name in RIGHT:
                for made in (by_position(name), by_name(name)):
                    self.assertIsInstance(made, (Value, Slot, Part))

    def test_each_letter_is_right_in_each_place(self):
        for letter in "abcdefghijklmnopqrstuvwxyz":
            for place in range(8):
                name = "b" * place + letter + "y" * (7 - place)
                self.assertEqual(named(name).names, [name])
                self.assertEqual(now(name).nows, [name])

    def test_wrong_names(self):
        for by_position, by_name in makers():
            for name in WRONG:
                for maker in (by_position, by_name):
                    with self.assertRaises(InvalidName) as caught:
                        maker(name)
                    self.assertIs(caught.exception.value, name)

    def test_every_other_sign_is_wrong_in_each_place(self):
        for code in range(32, 127):
            sign = chr(code)
            if not "a" <= sign <= "z":
                for name in (sign, sign + "abc", "ab" + sign + "c", "abcdefg" + sign):
                    for maker in (named, now):
                        with self.assertRaises(InvalidName) as caught:
                            maker(name)
                        self.assertEqual(caught.exception.value, name)

    def test_words_of_the_program_are_names(self):
        for name in ("now", "named", "passed", "number", "memo", "on", "show", "cells", "mod"):
            self.assertEqual(named(name).names, [name])


if __name__ == "__main__":
    unittest.main()
