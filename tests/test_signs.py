"""Promise 4: values stand for the same in many cases at once as in each case alone."""

import unittest

from elderruns.signs import reckon, reckon_all
from elderruns.values import named, now, number, passed

SOME = [-10 ** 20, -1000, -7, -2, -1, 0, 1, 2, 3, 7, 1000, 10 ** 20]
N, NOW, GIVEN = named("n"), now("n"), passed()
VALUES = [N, NOW, GIVEN, number(-4), NOW + GIVEN, NOW - GIVEN, NOW * GIVEN, NOW // 3, NOW.rest(3), NOW & GIVEN, NOW | GIVEN,
          ~NOW, ~~GIVEN, NOW.same(GIVEN), NOW.less(GIVEN), N - NOW, NOW - N, N.less(NOW), 5 - GIVEN * NOW, N & N, ~N,
          ((N + NOW * 3 - GIVEN).rest(7) // 2 & (NOW | ~GIVEN)).less(GIVEN - 1)]


class ManyCases(unittest.TestCase):
    def test_each_case_alone(self):
        cases = [(present, argument) for present in SOME for argument in SOME]
        columns = {"n": [present for present, _ in cases]}
        arguments = [argument for _, argument in cases]
        for value in VALUES:
            for n in SOME:
                held = {"n": n}
                awaited = [value.at(held, {"n": present}, argument) for present, argument in cases]
                self.assertEqual(reckon_all(value.signs, held, columns, arguments), awaited)
                self.assertEqual([reckon(value.signs, held, {"n": present}, argument) for present, argument in cases], awaited)
        self.assertEqual(columns, {"n": [present for present, _ in cases]})
        self.assertEqual(arguments, [argument for _, argument in cases])

    def test_no_case_and_one_case(self):
        for value in VALUES:
            self.assertEqual(reckon_all(value.signs, {"n": 2}, {"n": []}, []), [])
            self.assertEqual(reckon_all(value.signs, {"n": 2}, {"n": [5]}, [1]), [value.at({"n": 2}, {"n": 5}, 1)])


if __name__ == "__main__":
    unittest.main()
