"""Point 7: rows."""

import unittest

import support
from commonhouse.rows import across, is_row, is_rows, mixed, product, summed, units

TWENTY = 10 ** 20 - 1


class IsRows(unittest.TestCase):
    def test_rows(self):
        for wide in range(15):
            for many in (0, 1, 2, 14, 40):
                self.assertIs(is_rows(wide, ((7,) * wide,) * many), True)
        self.assertIs(is_rows(2, ((TWENTY, -TWENTY), (0, 0))), True)
        self.assertIs(is_rows(1, ((10 ** 500,), (-(10 ** 500),))), True)

    def test_rows_too_long_or_too_short(self):
        self.assertIs(is_rows(2, ((1, 2), (1,))), False)
        self.assertIs(is_rows(2, ((1, 2, 3), (1, 2))), False)
        self.assertIs(is_rows(0, ((), (1,))), False)
        self.assertIs(is_rows(1, ((),)), False)

    def test_lists_in_the_place_of_tuples(self):
        self.assertIs(is_rows(2, [(1, 2)]), False)
        self.assertIs(is_rows(2, ([1, 2],)), False)
        self.assertIs(is_rows(2, ((1, 2), [1, 2])), False)
        self.assertIs(is_rows(0, ([],)), False)
        self.assertIs(is_rows(0, []), False)

    def test_what_are_no_whole_numbers(self):
        for number in [True, False, None, "1", b"1", (1,), [1], {}]:
            self.assertIs(is_rows(2, ((1, number),)), False, number)
            self.assertIs(is_rows(2, ((1, 2), (number, 2))), False, number)

    def test_whatever_thing(self):
        for thing in support.ODD_THINGS:
            self.assertIs(is_rows(3, thing), False, thing)
        for thing in [None, True, 0, 5, "", "ab", b"", [], {}, set(), object(), (None,), ("",), ("ab",), ({},), (5,)]:
            for wide in (0, 1, 2):
                self.assertIs(is_rows(wide, thing), False, thing)

    def test_is_row(self):
        self.assertIs(is_row(2, (1, 2)), True)
        self.assertIs(is_row(0, ()), True)
        for thing in [(1,), [1, 2], (1, True), None, "ab"]:
            self.assertIs(is_row(2, thing), False, thing)


class Mixed(unittest.TestCase):
    def test_examples(self):
        rows = ((1, 2, 3), (-4, 0, 5))
        self.assertEqual(mixed(3, (2, -1), rows), (6, 4, 1))
        self.assertEqual(mixed(3, [2, -1], rows), (6, 4, 1))
        self.assertEqual(mixed(3, (0, 0), rows), (0, 0, 0))

    def test_no_rows_and_width_nought(self):
        self.assertEqual(mixed(3, (), ()), (0, 0, 0))
        self.assertEqual(mixed(3, [], ()), (0, 0, 0))
        self.assertEqual(mixed(0, (), ()), ())
        self.assertEqual(mixed(0, (5, 7), ((), ())), ())

    def test_fourteen_rows_of_great_numbers(self):
        source = support.chance(7)
        rows = support.some_rows(source, 14, 14, -TWENTY, TWENTY)
        numbers = [source.randint(-TWENTY, TWENTY) for _ in range(14)]
        want = tuple(sum(numbers[k] * rows[k][place] for k in range(14)) for place in range(14))
        self.assertEqual(mixed(14, numbers, rows), want)
        self.assertEqual(mixed(14, tuple(numbers), rows), want)

    def test_what_is_handed_in_stays_as_it_was(self):
        numbers, rows = [2, -1], ((1, 2), (3, 4))
        told = mixed(2, numbers, rows)
        self.assertEqual((numbers, rows), ([2, -1], ((1, 2), (3, 4))))
        numbers[0] = 99
        self.assertEqual(told, (-1, 0))
        self.assertTrue(support.is_plain(told))
        self.assertIs(type(told), tuple)


class Product(unittest.TestCase):
    def test_examples(self):
        self.assertEqual(product(2, ((1, 2), (0, -1)), ((1, 2), (3, 4))), ((7, 10), (-3, -4)))
        self.assertEqual(product(3, ((5,), (-1,)), ((1, 2, 3),)), ((5, 10, 15), (-1, -2, -3)))

    def test_no_rows_and_width_nought(self):
        self.assertEqual(product(3, (), ((1, 2, 3),)), ())
        self.assertEqual(product(3, (), ()), ())
        self.assertEqual(product(3, ((), ()), ()), ((0, 0, 0), (0, 0, 0)))
        self.assertEqual(product(0, ((1, 2),), ((), ())), ((),))

    def test_as_reckoned_apart(self):
        source = support.chance(11)
        for many, between, wide in [(14, 14, 14), (3, 14, 1), (1, 2, 14), (14, 1, 5), (2, 3, 4)]:
            one = support.some_rows(source, many, between, -TWENTY, TWENTY)
            other = support.some_rows(source, between, wide, -TWENTY, TWENTY)
            told = product(wide, one, other)
            self.assertEqual(told, support.times_product(one, other, wide))
            self.assertTrue(is_rows(wide, told))

    def test_units_change_nothing(self):
        rows = support.some_rows(support.chance(12), 5, 9, -50, 50)
        self.assertEqual(product(9, units(5), rows), rows)
        self.assertEqual(product(9, rows, units(9)), rows)


class Units(unittest.TestCase):
    def test_all(self):
        for n in range(15):
            told = units(n)
            self.assertEqual(told, support.square_units(n))
            self.assertTrue(is_rows(n, told))
            self.assertTrue(support.is_plain(told))
        self.assertEqual(units(0), ())
        self.assertEqual(units(2), ((1, 0), (0, 1)))


class Helpers(unittest.TestCase):
    def test_across(self):
        self.assertEqual(across(3, ((1, 2, 3), (4, 5, 6))), ((1, 4), (2, 5), (3, 6)))
        self.assertEqual(across(2, ()), ((), ()))
        self.assertEqual(across(0, ((), ())), ())

    def test_summed(self):
        self.assertEqual(summed((1, 2, 3), (4, -5, 6)), 12)
        self.assertEqual(summed((), ()), 0)


if __name__ == "__main__":
    unittest.main()
