"""Promises 2 and 4: values, their signs and methods, what they tell, and when they are equal."""

import unittest
from fractions import Fraction

from elderruns.errors import InvalidDivisor, RunError, UnknownName
from elderruns.values import Value, named, now, number, passed

A, B = named("a"), named("b")

# Each sign between two values, or a value and an integer, and what it stands for.
SIGNS = {
    "+": (lambda one, other: one + other, lambda one, other: one + other),
    "-": (lambda one, other: one - other, lambda one, other: one - other),
    "*": (lambda one, other: one * other, lambda one, other: one * other),
    "&": (lambda one, other: one & other, lambda one, other: 1 if one and other else 0),
    "|": (lambda one, other: one | other, lambda one, other: 1 if one or other else 0),
}
METHODS = {
    "same": (lambda one, other: one.same(other), lambda one, other: 1 if one == other else 0),
    "less": (lambda one, other: one.less(other), lambda one, other: 1 if one < other else 0),
}
SOME = [-10 ** 20, -1000, -7, -2, -1, 0, 1, 2, 3, 7, 1000, 10 ** 20]


def floor(one, n):
    """Return the quotient rounded down, reckoned by fractions."""
    return Fraction(one, n).__floor__()


class Leaves(unittest.TestCase):
    def test_named_is_read_off_the_first_dict(self):
        self.assertEqual(named("n").at({"n": 4}, {"n": 5}, 6), 4)
        self.assertEqual(named(name="n").at(held={"n": 4}, present={"n": 5}, argument=6), 4)

    def test_now_is_read_off_the_second_dict(self):
        self.assertEqual(now("n").at({"n": 4}, {"n": 5}, 6), 5)
        self.assertEqual(now(name="n").at(held={"n": 4}, present={"n": 5}, argument=6), 5)

    def test_passed_is_the_argument(self):
        for argument in SOME:
            self.assertEqual(passed().at({}, {}, argument), argument)

    def test_number_is_the_integer(self):
        for n in SOME:
            self.assertEqual(number(n).at({}, {}, 5), n)
            self.assertEqual(number(n=n).at({}, {}, 5), n)

    def test_they_are_values(self):
        for value in (named("n"), now("n"), passed(), number(3), A + 1, ~A, A.rest(2), A // 2, A.same(1), A.less(B)):
            self.assertIs(type(value), Value)


class Signs(unittest.TestCase):
    def check(self, value, one, other, awaited):
        found = value.at({"a": one, "b": other}, {}, 0)
        self.assertEqual(found, awaited)
        self.assertIs(type(found), int)

    def test_between_two_values(self):
        for built, meant in list(SIGNS.values()) + list(METHODS.values()):
            for one in SOME:
                for other in SOME:
                    self.check(built(A, B), one, other, meant(one, other))

    def test_with_an_integer_behind(self):
        for built, meant in list(SIGNS.values()) + list(METHODS.values()):
            for one in SOME:
                for other in SOME:
                    self.check(built(A, other), one, 0, meant(one, other))

    def test_with_an_integer_ahead(self):
        for built, meant in SIGNS.values():
            for one in SOME:
                for other in SOME:
                    self.check(built(one, B), 0, other, meant(one, other))

    def test_with_itself(self):
        for built, meant in list(SIGNS.values()) + list(METHODS.values()):
            for one in SOME:
                self.check(built(A, A), one, 0, meant(one, one))

    def test_not(self):
        for one in SOME:
            self.check(~A, one, 0, 1 if one == 0 else 0)
            self.check(~~A, one, 0, 0 if one == 0 else 1)

    def test_quotient_and_rest(self):
        for one in SOME + list(range(-12, 13)):
            for n in (1, 2, 3, 5, 7, 1000, 10 ** 20):
                self.check(A // n, one, 0, floor(one, n))
                self.check(A.rest(n), one, 0, one - n * floor(one, n))
                self.check(A.rest(n=n), one, 0, one - n * floor(one, n))
                self.assertIn(A.rest(n).at({"a": one}, {}, 0), range(n))

    def test_quotients_of_negative_numbers_are_rounded_down(self):
        self.assertEqual([(A // 3).at({"a": one}, {}, 0) for one in range(-7, 4)], [-3, -2, -2, -2, -1, -1, -1, 0, 0, 0, 1])
        self.assertEqual([A.rest(3).at({"a": one}, {}, 0) for one in range(-7, 4)], [2, 0, 1, 2, 0, 1, 2, 0, 1, 2, 0])
        self.assertEqual([A.rest(1).at({"a": one}, {}, 0) for one in (-5, 0, 5)], [0, 0, 0])

    def test_methods_by_name(self):
        self.check(A.same(other=B), 3, 3, 1)
        self.check(A.same(other=4), 3, 3, 0)
        self.check(A.less(other=B), 2, 3, 1)
        self.check(A.less(other=2), 2, 3, 0)

    def test_deep_values(self):
        deep = ((A + 3) * (B - now("c"))).rest(7) // 2 + (~passed() | (A & B)) - A.less(B).same(0)
        for a in range(-3, 4):
            for b in range(-3, 4):
                for c in range(3):
                    for d in range(3):
                        awaited = (((a + 3) * (b - c)) % 7) // 2 + (1 if d == 0 or (a and b) else 0)
                        awaited -= 1 if (1 if a < b else 0) == 0 else 0
                        self.assertEqual(deep.at({"a": a, "b": b}, {"c": c}, d), awaited)

    def test_the_order_of_the_parts(self):
        self.assertEqual((A - (B - 1)).at({"a": 10, "b": 4}, {}, 0), 7)
        self.assertEqual(((A - B) - 1).at({"a": 10, "b": 4}, {}, 0), 5)
        self.assertEqual((5 - A // 2).at({"a": 5}, {}, 0), 3)
        self.assertEqual((number(9) // 2).at({}, {}, 0), 4)


class Divisors(unittest.TestCase):
    def test_one_is_the_least(self):
        self.assertEqual((A // 1).at({"a": -9}, {}, 0), -9)
        self.assertEqual(A.rest(1).at({"a": -9}, {}, 0), 0)

    def test_wrong_divisors(self):
        for n in (0, -1, -2, -1000, -10 ** 20):
            for build in (lambda one, n: one // n, lambda one, n: one.rest(n), lambda one, n: one.rest(n=n)):
                for value in (A, number(0), now("c") + passed()):
                    with self.assertRaises(InvalidDivisor) as caught:
                        build(value, n)
                    self.assertEqual(caught.exception.value, n)
                    self.assertIsInstance(caught.exception, RunError)

    def test_the_value_stays_as_it_was(self):
        value = A + 1
        for build in (lambda n: value // n, lambda n: value.rest(n)):
            with self.assertRaises(InvalidDivisor):
                build(0)
        self.assertEqual(value, A + 1)


class Told(unittest.TestCase):
    def test_names(self):
        self.assertEqual(number(1).names, [])
        self.assertEqual(passed().names, [])
        self.assertEqual(now("n").names, [])
        self.assertEqual(A.names, ["a"])
        value = named("zz") + named("b") * named("ba") - named("zz").less(named("a")) + now("c")
        self.assertEqual(value.names, ["a", "b", "ba", "zz"])
        self.assertEqual(value.nows, ["c"])

    def test_nows(self):
        self.assertEqual(number(1).nows, [])
        self.assertEqual(passed().nows, [])
        self.assertEqual(named("n").nows, [])
        value = (now("zz").same(now("b")) | ~now("ba")).rest(3) // 2 & now("zz") - now("a") + named("a")
        self.assertEqual(value.nows, ["a", "b", "ba", "zz"])
        self.assertEqual(value.names, ["a"])

    def test_has_passed(self):
        for value in (passed(), passed() + 1, 1 - passed(), ~passed(), passed().rest(2), passed() // 2, A * (passed() | B),
                      A.same(passed()), A.less(now("a") & passed())):
            self.assertIs(value.has_passed, True)
        for value in (A, now("a"), number(0), A + now("a") * 3, named("passed"), now("passed"), ~A):
            self.assertIs(value.has_passed, False)

    def test_every_sign_tells_both_of_its_parts(self):
        for built, _ in list(SIGNS.values()) + list(METHODS.values()):
            value = built(named("d") + now("e"), named("c") + now("d") + passed())
            self.assertEqual((value.names, value.nows, value.has_passed), (["c", "d"], ["d", "e"], True))
            self.assertEqual((built(A, 3).names, built(A, 3).nows, built(A, 3).has_passed), (["a"], [], False))
        for value in (~(B + now("b") * passed()), (B + now("b") * passed()) // 2, (B + now("b") * passed()).rest(2)):
            self.assertEqual((value.names, value.nows, value.has_passed), (["b"], ["b"], True))

    def test_the_lists_are_new(self):
        value = A + now("c")
        value.names.append("x")
        value.nows.clear()
        self.assertEqual((value.names, value.nows), (["a"], ["c"]))
        self.assertIsNot(value.names, value.names)
        self.assertIsNot(value.nows, value.nows)

    def test_properties_are_only_read(self):
        for name in ("names", "nows", "has_passed"):
            self.assertIsInstance(vars(Value)[name], property)
            with self.assertRaises(AttributeError):
                setattr(A, name, [])


class At(unittest.TestCase):
    def test_too_many_names(self):
        self.assertEqual((A + now("b")).at({"a": 1, "b": 20, "x": 5}, {"b": 2, "a": 30}, 9), 3)
        self.assertEqual(number(4).at({"a": 1}, {"b": 2}, 9), 4)

    def test_the_dicts_stay_as_they_were(self):
        held, present = {"a": 1, "x": 2}, {"b": 3}
        (A + now("b")).at(held, present, 0)
        with self.assertRaises(UnknownName):
            (B + now("b")).at(held, present, 0)
        self.assertEqual((held, present), ({"a": 1, "x": 2}, {"b": 3}))

    def test_nothing_is_kept_of_the_dicts(self):
        held, present = {"a": 1}, {"a": 10}
        value = A + now("a")
        self.assertEqual(value.at(held, present, 0), 11)
        held["a"], present["a"] = 2, 20
        self.assertEqual(value.at(held, present, 0), 22)

    def missing(self, value, held, present):
        with self.assertRaises(UnknownName) as caught:
            value.at(held, present, 0)
        return caught.exception.value

    def test_the_least_missing_name_is_told(self):
        value = named("d") + named("b") * named("c") - named("bb")
        self.assertEqual(self.missing(value, {}, {}), "b")
        self.assertEqual(self.missing(value, {"b": 0}, {}), "bb")
        self.assertEqual(self.missing(value, {"b": 0, "bb": 0}, {}), "c")
        self.assertEqual(self.missing(value, {"b": 0, "bb": 0, "c": 0, "a": 0}, {}), "d")

    def test_the_least_missing_now_is_told(self):
        value = now("d") + now("b") * now("c") - now("bb")
        self.assertEqual(self.missing(value, {}, {}), "b")
        self.assertEqual(self.missing(value, {}, {"b": 0, "c": 0}), "bb")
        self.assertEqual(self.missing(value, {}, {"b": 0, "bb": 0, "c": 0}), "d")

    def test_names_are_asked_for_ahead_of_nows(self):
        value = now("a") + named("z")
        self.assertEqual(self.missing(value, {}, {}), "z")
        self.assertEqual(self.missing(value, {"z": 1}, {}), "a")
        self.assertEqual(self.missing(value, {"a": 1}, {"a": 1, "z": 1}), "z")

    def test_one_dict_does_not_help_the_other(self):
        self.assertEqual(self.missing(named("n"), {}, {"n": 1}), "n")
        self.assertEqual(self.missing(now("n"), {"n": 1}, {}), "n")

    def test_names_are_asked_for_wherever_they_stand(self):
        for built, _ in list(SIGNS.values()) + list(METHODS.values()):
            self.assertEqual(self.missing(built(number(0), A), {}, {}), "a")
            self.assertEqual(self.missing(built(number(1), A), {}, {}), "a")
            self.assertEqual(self.missing(built(now("a"), number(0)), {}, {}), "a")
        self.assertEqual(self.missing(~A, {}, {}), "a")
        self.assertEqual(self.missing(A.rest(1), {}, {}), "a")


class Equality(unittest.TestCase):
    def alike(self):
        """Return values that are all unlike each other."""
        c, d = now("c"), passed()
        return [
            A, B, now("a"), now("b"), d, number(0), number(1), number(-1), number(10 ** 20), A + 1, A + 2, A + B, B + A, 1 + A,
            A - 1, A - B, B - A, 1 - A, A * 1, A * B, B * A, 1 * A, A // 1, A // 2, B // 1, A.rest(1), A.rest(2),
            A & B, B & A, A & 1, 1 & A, A | B, B | A, A | 1, 1 | A, ~A, ~B, ~~A, ~c, A.same(B), B.same(A), A.same(1),
            number(1).same(A), A.less(B), B.less(A), A.less(1), number(1).less(A), A + B + c, A + (B + c), (A + B) - c,
            A - (B + c), (A * 2 + d - c).rest(5), (A * 2 + d - c).rest(6), (A * 3 + d - c).rest(5), (B * 2 + d - c).rest(5),
            (A * 2 + 0 - c).rest(5), (A * 2 + d - now("d")).rest(5), (A * 2 + d - named("c")).rest(5),
            (A * 2 - d - c).rest(5), (2 * A + d - c).rest(5), (A * 2 + d - c) // 5, ~(A * 2 + d - c).rest(5),
            ~(A + B), ~A + B, A + ~B, ~A + ~B, (A + 1) // 2, A + number(1) // 2]

    def test_built_alike(self):
        for one, other in zip(self.alike(), self.alike()):
            self.assertTrue(one == other)
            self.assertFalse(one != other)

    def test_built_unlike(self):
        values = self.alike()
        for at, one in enumerate(values):
            for place, other in enumerate(values):
                self.assertIs(one == other, at == place)
                self.assertIs(one != other, at != place)

    def test_an_integer_is_built_as_a_number(self):
        for built, _ in SIGNS.values():
            self.assertEqual(built(A, 3), built(A, number(3)))
            self.assertEqual(built(3, A), built(number(3), A))
        for built, _ in METHODS.values():
            self.assertEqual(built(A, -3), built(A, number(-3)))

    def test_equal_for_all_integers_is_not_built_alike(self):
        for one, other in ((A + B, B + A), (A + 0, A), (number(1) + 1, number(2)), (A - A, number(0)), (~~~A, ~A)):
            self.assertFalse(one == other)

    def test_not_equal_to_anything_else(self):
        for value, others in ((number(3), (3, "3", [3], (3,), None, True, {}, 3.0)),
                              (A, ("a", ["a"], ("a",), None, 0, 1, {"a": 1}, A.names, object())),
                              (number(1), (1, True)), (number(0), (0, False, None, "", [], ()))):
            for other in others:
                self.assertIs(value == other, False)
                self.assertIs(other == value, False)
                self.assertIs(value != other, True)
                self.assertIs(other != value, True)

    def test_in_lists_and_tuples(self):
        self.assertEqual([A + 1, (B, 2)], [named("a") + number(1), (named("b"), 2)])
        self.assertIn(named("a"), [B, A])
        self.assertNotIn(named("c"), [B, A])


class Unchanging(unittest.TestCase):
    def test_signs_that_set_a_name_leave_the_value(self):
        def add(value):
            value += 1
            return value

        def take(value):
            value -= B
            return value

        def times(value):
            value *= 2
            return value

        def over(value):
            value //= 2
            return value

        def both(value):
            value &= B
            return value

        def either(value):
            value |= 1
            return value

        for change, awaited in ((add, A + 1), (take, A - B), (times, A * 2), (over, A // 2), (both, A & B), (either, A | 1)):
            value = named("a")
            self.assertEqual(change(value), awaited)
            self.assertEqual(value, A)
            self.assertEqual(value.at({"a": 5}, {}, 0), 5)

    def test_an_integer_ahead_of_a_sign_that_sets_a_name(self):
        total = 3
        total += A
        self.assertEqual(total, 3 + A)
        total -= A
        self.assertEqual(total, 3 + A - A)

    def test_parts_stay_as_they_were(self):
        one, other = A * 2, B + 1
        joined = [one + other, one - other, one * other, one & other, one | other, ~one, one // 2, one.rest(2),
                  one.same(other), one.less(other), 1 + one, 1 - one, 2 * one, 1 & one, 0 | one]
        self.assertEqual(len(joined), 15)
        self.assertEqual((one, other), (named("a") * 2, named("b") + 1))
        self.assertEqual(one.at({"a": 4}, {}, 0), 8)

    def test_values_share_parts(self):
        value = A
        for _ in range(8):
            value = value + value
        self.assertEqual(value.at({"a": 3}, {}, 0), 3 * 256)
        self.assertEqual(value.names, ["a"])


class Bounds(unittest.TestCase):
    def test_thirteen_signs(self):
        value, row = A, number(10 ** 20 - 1)
        for k in range(13):
            value = value * 2 if k % 2 == 0 else value - k
            row = row + (10 ** 20 - 1)
        self.assertEqual(value.at({"a": 1}, {}, 0), 128 - (64 * 1 + 32 * 3 + 16 * 5 + 8 * 7 + 4 * 9 + 2 * 11))
        self.assertEqual(row.at({}, {}, 0), 14 * (10 ** 20 - 1))

    def test_integers_of_twenty_digits(self):
        many = 10 ** 20 - 1
        self.assertEqual((A * many - many).at({"a": -many}, {}, 0), -many * many - many)
        self.assertEqual((A // many).at({"a": -many - 1}, {}, 0), -2)
        self.assertEqual(A.rest(many).at({"a": -1}, {}, 0), many - 1)
        self.assertNotEqual(A + many, A + (many - 1))

    def test_far_beyond_the_bounds(self):
        ahead, behind = A, A
        for _ in range(1500):
            ahead = 1 + ahead
            behind = behind + 1
        self.assertEqual((ahead.at({"a": 0}, {}, 0), behind.at({"a": 0}, {}, 0)), (1500, 1500))
        self.assertNotEqual(ahead, behind)
        self.assertEqual((ahead.names, behind.nows, ahead.has_passed), (["a"], [], False))


if __name__ == "__main__":
    unittest.main()
