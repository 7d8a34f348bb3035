"""Point 10: rows made diagonal."""

import itertools
import unittest

import support
from commonhouse.diagonal import diagonal
from commonhouse.numbers import common_measure
from commonhouse.rows import is_rows
from commonhouse.stairs import stair_of

TWENTY = 10 ** 20 - 1


def minor(rows, places):
    """The determinant of some rows at some places, by going along the first row."""
    if not rows:
        return 1
    total, sign = 0, 1
    for k, place in enumerate(places):
        total += sign * rows[0][place] * minor(rows[1:], places[:k] + places[k + 1:])
        sign = -sign
    return total


def numbers_by_minors(wide, rows):
    """The numbers, by the common measures of all minors of each size."""
    found, last = [], 1
    for k in range(1, min(wide, len(rows)) + 1):
        measure = 0
        for some in itertools.combinations(rows, k):
            for places in itertools.combinations(range(wide), k):
                measure = common_measure(measure, minor(some, places))
        found.append(measure // last if last else 0)
        last = measure
    return tuple(found)


def straight(numbers):
    """Diagonal rows of these numbers."""
    many = len(numbers)
    return tuple(tuple(numbers[k] if k == place else 0 for place in range(many)) for k in range(many))


class Diagonal(unittest.TestCase):
    def check(self, wide, rows):
        many = len(rows)
        before = rows
        told = diagonal(wide, rows)
        self.assertEqual(rows, before)
        self.assertIs(type(told), tuple)
        self.assertTrue(support.is_plain(told))
        left, left_back, numbers, right, right_back = told
        for square in (left, left_back):
            self.assertEqual(len(square), many)
            self.assertTrue(is_rows(many, square))
        for square in (right, right_back):
            self.assertEqual(len(square), wide)
            self.assertTrue(is_rows(wide, square))
        self.assertEqual(support.times_product(left, left_back, many), support.square_units(many))
        self.assertEqual(support.times_product(right, right_back, wide), support.square_units(wide))
        made = support.times_product(support.times_product(left, rows, wide), right, wide)
        want = tuple(tuple(numbers[k] if k == place else 0 for place in range(wide)) for k in range(many))
        self.assertEqual(made, want)
        self.assertIs(type(numbers), tuple)
        self.assertEqual(len(numbers), min(many, wide))
        self.assertTrue(all(number >= 0 for number in numbers))
        for one, other in zip(numbers, numbers[1:]):
            self.assertTrue(other == 0 if one == 0 else other % one == 0, numbers)
        return numbers

    def test_examples(self):
        self.assertEqual(self.check(1, ((-6,),)), (6,))
        self.assertEqual(self.check(2, ((2, 0), (0, 3))), (1, 6))
        self.assertEqual(self.check(2, ((4, 0), (0, 6))), (2, 12))
        self.assertEqual(self.check(2, ((2, 4), (6, 8))), (2, 4))
        self.assertEqual(self.check(3, ((2, 4, 4), (-6, 6, 12), (10, 4, 16))), (2, 2, 156))
        self.assertEqual(self.check(3, ((6, 10, 15),)), (1,))
        self.assertEqual(self.check(1, ((6,), (10,), (15,))), (1,))

    def test_no_rows_width_nought_and_noughts(self):
        self.assertEqual(diagonal(0, ()), ((), (), (), (), ()))
        for wide in (0, 1, 14):
            self.assertEqual(self.check(wide, ()), ())
        for many in (1, 14):
            self.assertEqual(self.check(0, ((),) * many), ())
        self.assertEqual(self.check(1, ((0,),)), (0,))
        self.assertEqual(self.check(3, ((0, 0, 0), (0, 0, 0))), (0, 0))
        self.assertEqual(self.check(14, ((0,) * 14,) * 14), (0,) * 14)

    def test_numbers_that_are_nought(self):
        self.assertEqual(self.check(2, ((0, 0), (0, 3))), (3, 0))
        self.assertEqual(self.check(2, ((0, 3), (0, 0))), (3, 0))
        self.assertEqual(self.check(2, ((1, 2), (2, 4))), (1, 0))
        self.assertEqual(self.check(3, ((0, 0, 0), (0, 4, 0), (0, 0, 6))), (2, 12, 0))
        self.assertEqual(self.check(2, ((0, -5), (0, 10), (0, 5))), (5, 0))

    def test_rows_that_are_so_many_times_another(self):
        self.assertEqual(self.check(3, ((2, 4, 6), (-6, -12, -18), (4, 8, 12))), (2, 0, 0))

    def test_small_rows_as_by_minors(self):
        for rows in itertools.product(itertools.product((-2, 0, 3), repeat=2), repeat=2):
            self.assertEqual(self.check(2, rows), numbers_by_minors(2, rows), rows)
        source = support.chance(31)
        for many, wide in [(2, 3), (3, 2), (3, 3), (3, 4), (4, 3), (4, 4), (2, 5)]:
            for numbers in [(-9, 9), (-2, 2), (0, 1)]:
                for _ in range(15):
                    rows = support.some_rows(source, many, wide, *numbers)
                    self.assertEqual(self.check(wide, rows), numbers_by_minors(wide, rows), rows)
            for _ in range(15):
                rows = tuple(tuple(source.choice((0, 2, 4, 6, 12, -18, 27)) for _ in range(wide)) for _ in range(many))
                self.assertEqual(self.check(wide, rows), numbers_by_minors(wide, rows), rows)

    def test_diagonal_rows_whose_numbers_do_not_divide(self):
        self.assertEqual(self.check(3, straight((6, 10, 15))), (1, 30, 30))
        self.assertEqual(self.check(4, straight((12, 1, 0, 18))), (1, 6, 36, 0))
        self.assertEqual(self.check(4, straight((8, 4, 2, 1))), (1, 2, 4, 8))
        self.assertEqual(self.check(3, straight((-3, 5, -7))), (1, 1, 105))
        self.assertEqual(self.check(4, straight((2, 12, 90, 60))), (2, 6, 60, 180))
        powers = tuple(2 ** k for k in range(14))
        self.assertEqual(self.check(14, straight(powers[::-1])), powers)

    def test_many_rows_of_great_numbers(self):
        source = support.chance(32)
        with support.good_time():
            for many, wide in [(14, 14), (14, 13), (13, 14), (14, 1), (1, 14), (14, 7), (7, 14)]:
                rows = support.some_rows(source, many, wide, -TWENTY, TWENTY)
                self.check(wide, rows)
                self.assertLess(max(support.most_figures(square) for square in diagonal(wide, rows)[::3]), 1500)
            self.check(14, straight([source.randint(1, TWENTY) for _ in range(14)]))
            self.check(14, tuple(tuple(2 ** source.randint(0, 60) * source.randint(-9, 9) for _ in range(14)) for _ in range(14)))

    def test_many_rows_of_great_numbers_that_hang_together(self):
        source = support.chance(33)
        with support.good_time():
            for between in (1, 2, 5, 13):
                one = support.some_rows(source, 14, between, -(10 ** 10), 10 ** 10)
                other = support.some_rows(source, between, 14, -(10 ** 8), 10 ** 8)
                numbers = self.check(14, support.times_product(one, other, 14))
                self.assertEqual(sum(number != 0 for number in numbers), between)

    def test_the_numbers_stay_by_squares_that_can_be_taken_back(self):
        source = support.chance(34)
        some = diagonal(6, support.some_rows(source, 6, 6, -9, 9))
        more = diagonal(6, support.some_rows(source, 6, 6, -9, 9))
        want = (1, 2, 2, 12, 720720, 0)
        rows = support.times_product(support.times_product(some[0], straight(want), 6), more[3], 6)
        self.assertEqual(self.check(6, rows), want)

    def test_told_squares_are_handed_in(self):
        with support.good_time():
            told = diagonal(14, support.some_rows(support.chance(35), 14, 14, -TWENTY, TWENTY))
            for square in (told[0], told[1], told[3], told[4]):
                self.assertEqual(stair_of(14, square), support.square_units(14))
                self.assertEqual(self.check(14, square), (1,) * 14)


if __name__ == "__main__":
    unittest.main()
