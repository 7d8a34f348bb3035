"""Point 4: common measures and multiples; point 2: what a whole number is."""

import unittest

import support
from commonhouse.numbers import both, common_measure, common_multiple, divides, is_whole, power

GREAT = [10 ** 29, 10 ** 30 - 1, 2 ** 97 * 3 ** 2, -(7 ** 35), 6 ** 38, -(10 ** 30) + 1, 123456789012345678901234567890]


def measure_by_trying(a, b):
    if a == 0 and b == 0:
        return 0
    return max(k for k in range(1, max(abs(a), abs(b)) + 1) if a % k == 0 and b % k == 0)


def multiple_by_trying(a, b):
    if a == 0 or b == 0:
        return 0
    return next(k for k in range(1, abs(a * b) + 1) if k % a == 0 and k % b == 0)


class Measures(unittest.TestCase):
    def test_measure_and_multiple_as_tried(self):
        for a in range(-18, 19):
            for b in range(-18, 19):
                self.assertEqual(common_measure(a, b), measure_by_trying(a, b), (a, b))
                self.assertEqual(common_multiple(a, b), multiple_by_trying(a, b), (a, b))

    def test_noughts(self):
        self.assertEqual(common_measure(0, 0), 0)
        self.assertEqual(common_measure(0, -7), 7)
        self.assertEqual(common_measure(7, 0), 7)
        self.assertEqual(common_multiple(0, 0), 0)
        self.assertEqual(common_multiple(0, -7), 0)
        self.assertEqual(common_multiple(7, 0), 0)

    def test_great_numbers(self):
        self.assertEqual(common_measure(2 ** 90, -(6 ** 30)), 2 ** 30)
        self.assertEqual(common_multiple(-(2 ** 90), 6 ** 30), 2 ** 90 * 3 ** 30)
        self.assertEqual(common_measure(10 ** 30 - 1, 10 ** 20 - 1), 10 ** 10 - 1)
        for a in GREAT:
            for b in GREAT:
                self.assertEqual(common_measure(a, b) * common_multiple(a, b), abs(a * b))

    def test_kinds(self):
        self.assertTrue(support.is_plain(common_measure(4, 6)))
        self.assertTrue(support.is_plain(common_multiple(4, 6)))
        self.assertIs(type(common_multiple(0, 6)), int)


class Both(unittest.TestCase):
    def check(self, a, b):
        told = both(a, b)
        self.assertIs(type(told), tuple)
        self.assertTrue(support.is_plain(told))
        g, x, y = told
        self.assertEqual(g, common_measure(a, b), (a, b))
        self.assertEqual(x * a + y * b, g, (a, b))

    def test_small_numbers_of_both_signs(self):
        for a in range(-30, 31):
            for b in range(-30, 31):
                self.check(a, b)

    def test_great_numbers_of_both_signs(self):
        for a in GREAT + [0, 1, -1]:
            for b in GREAT + [0, 1, -1]:
                self.check(a, b)
                self.check(-a, b)

    def test_told_numbers_of_any_size(self):
        with support.good_time():
            self.check(3 ** 4000, 2 ** 6000 + 1)
            self.check(-(10 ** 2000) + 7, 10 ** 1999 + 9)


class Helpers(unittest.TestCase):
    def test_whole_numbers_are_no_truths(self):
        for thing in [0, 1, -1, 10 ** 40]:
            self.assertIs(is_whole(thing), True)
        for thing in [True, False, None, "1", (1,), [1], b"1", {}, object()]:
            self.assertIs(is_whole(thing), False)

    def test_divides(self):
        self.assertTrue(divides(0, 0))
        self.assertFalse(divides(0, 3))
        self.assertTrue(divides(3, 0))
        self.assertTrue(divides(3, -6))
        self.assertFalse(divides(3, 7))

    def test_power(self):
        self.assertEqual([power(3, k) for k in range(4)], [1, 3, 9, 27])


if __name__ == "__main__":
    unittest.main()
