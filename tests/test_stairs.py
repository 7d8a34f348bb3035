"""Point 9: stairs, mixings, and what can be reached."""

import itertools
import unittest

import support
from commonhouse.stairs import is_stair, mixing, stair_of, stair_with
from commonhouse.steps import stepped

TWENTY = 10 ** 20 - 1


class IsStair(unittest.TestCase):
    def test_stairs(self):
        for wide, rows in [(0, ()), (3, ()), (1, ((5,),)), (2, ((0, 7),)), (2, ((2, 4), (0, 5))), (3, ((1, -9, 0), (0, 0, 2))),
                           (3, ((1, -9, 1), (0, 0, 2))), (3, ((0, 1, -4),)), (3, ((3, 1, 1), (0, 2, 1), (0, 0, 2)))]:
            self.assertIs(is_stair(wide, rows), True, rows)

    def test_what_is_none(self):
        for wide, rows in [(0, ((),)), (1, ((0,),)), (1, ((-5,),)), (1, ((5,), (0,))), (2, ((0, 0), (1, 0))),
                           (2, ((1, 0), (1, 0))), (2, ((0, 1), (1, 0))), (2, ((1, 5), (0, 5))), (2, ((1, -1), (0, 5))),
                           (2, ((1, 0), (0, -5))), (3, ((3, 1, 2), (0, 2, 1), (0, 0, 2))), (2, ((1, 0), (2, 1)))]:
            self.assertIs(is_stair(wide, rows), False, rows)

    def test_by_the_words_of_the_document(self):
        for rows in itertools.product(itertools.product((-1, 0, 1, 2), repeat=2), repeat=2):
            self.assertIs(is_stair(2, rows), support.shows_a_stair(2, rows), rows)


class Stairs(unittest.TestCase):
    def check(self, wide, rows):
        before = rows
        stair = stair_of(wide, rows)
        again, mixings = told = stair_with(wide, rows)
        self.assertIs(type(told), tuple)
        self.assertTrue(support.is_plain(stair) and support.is_plain(told))
        self.assertEqual(stair, again)
        self.assertTrue(support.shows_a_stair(wide, stair), rows)
        self.assertTrue(is_stair(wide, stair))
        self.assertEqual([len(numbers) for numbers in mixings], [len(rows)] * len(stair))
        self.assertEqual(support.times_product(mixings, rows, wide), stair)
        self.assertTrue(all(support.reached_by(stair, row) for row in rows), rows)
        self.assertEqual(stair_of(wide, stair), stair)
        for row in rows:
            self.check_reached(wide, rows, row)
        self.assertEqual(rows, before)
        return stair

    def check_reached(self, wide, rows, word):
        numbers = mixing(wide, rows, word)
        self.assertIs(type(numbers), tuple)
        self.assertEqual(len(numbers), len(rows))
        self.assertEqual(support.times_product((numbers,), rows, wide)[0], tuple(word))
        self.assertTrue(support.is_plain(numbers))

    def test_examples(self):
        self.assertEqual(self.check(1, ((4,), (6,))), ((2,),))
        self.assertEqual(self.check(2, ((2, 4), (0, 6), (1, 1))), ((1, 1), (0, 2)))
        self.assertEqual(self.check(2, ((0, -3),)), ((0, 3),))
        self.assertEqual(self.check(2, ((3, 1), (0, 4))), ((3, 1), (0, 4)))
        self.assertEqual(self.check(2, ((3, 5), (0, 4))), ((3, 1), (0, 4)))
        self.assertEqual(self.check(3, ((0, 2, 1), (0, 4, 7))), ((0, 2, 1), (0, 0, 5)))

    def test_no_rows_width_nought_and_noughts(self):
        self.assertEqual(self.check(0, ()), ())
        self.assertEqual(self.check(14, ()), ())
        self.assertEqual(self.check(0, ((), (), ())), ())
        self.assertEqual(self.check(3, ((0, 0, 0),)), ())
        self.assertEqual(self.check(3, ((0, 0, 0),) * 14), ())
        self.assertEqual(stair_with(3, ((0, 0, 0),)), ((), ()))

    def test_rows_that_are_so_many_times_another(self):
        self.assertEqual(self.check(2, ((2, 4), (-6, -12), (4, 8))), ((2, 4),))
        self.assertEqual(self.check(2, ((6, 12), (4, 8))), ((2, 4),))
        row = tuple(range(1, 15))
        self.assertEqual(self.check(14, tuple(tuple(k * x for x in row) for k in range(-7, 7))), (row,))

    def test_small_rows_all(self):
        for rows in itertools.product(itertools.product((-2, 0, 3), repeat=2), repeat=3):
            self.check(2, rows)

    def test_words_that_are_reached_and_those_that_are_not(self):
        for rows in [((2, 4), (0, 6)), ((4, 6), (6, 9)), ((3, 1), (1, 3), (5, 7)), ((0, 2),), (), ((2, 0), (0, 3))]:
            sums = range(-12, 13)
            reached = {
                tuple(sum(n * row[place] for n, row in zip(numbers, rows)) for place in range(2))
                for numbers in itertools.product(sums, repeat=len(rows))
            }
            for word in itertools.product(range(-3, 4), repeat=2):
                if word in reached:
                    self.check_reached(2, rows, word)
                else:
                    self.assertIsNone(mixing(2, rows, word), (rows, word))

    def test_mixing_at_the_edges(self):
        self.assertEqual(mixing(0, (), ()), ())
        self.assertEqual(len(mixing(0, ((), ()), ())), 2)
        self.assertEqual(mixing(2, (), (0, 0)), ())
        self.assertIsNone(mixing(2, (), (0, 1)))
        self.assertEqual(len(mixing(2, ((0, 0),), (0, 0))), 1)
        self.assertIsNone(mixing(2, ((0, 0),), (1, 0)))
        self.assertIsNone(mixing(2, ((2, 0), (0, 2)), (1, 2)))
        self.assertIsNone(mixing(3, ((1, 1, 0),), (1, 0, 0)))
        self.assertIsNone(mixing(3, ((0, 1, 1),), (1, 1, 1)))
        self.check_reached(1, ((10 ** 20 - 3,), (10 ** 20 - 9,)), (10 ** 30 - 4,))

    def test_one_stair_for_all_rows_that_reach_the_same(self):
        source = support.chance(21)
        for many, wide in [(2, 2), (3, 5), (5, 3), (6, 6), (14, 4)]:
            rows = support.some_rows(source, many, wide, -9, 9)
            stair = self.check(wide, rows)
            self.assertEqual(stair_of(wide, rows[::-1]), stair)
            self.assertEqual(stair_of(wide, rows + rows[:1] + ((0,) * wide,)), stair)
            for _ in range(30):
                i, j = source.sample(range(many), 2)
                rows = stepped(rows, source.choice([("add", i, j, source.randint(-3, 3)), ("swap", i, j), ("turn", i)]))
            self.assertEqual(stair_of(wide, rows), stair)

    def test_unlike_stairs_reach_unlike_words(self):
        self.assertNotEqual(stair_of(2, ((2, 0), (0, 2))), stair_of(2, ((2, 0), (1, 2))))
        self.assertNotEqual(stair_of(2, ((2, 0),)), stair_of(2, ((2, 0), (0, 2))))

    def test_many_rows_of_great_numbers(self):
        source = support.chance(5)
        shapes = [(14, 14), (14, 13), (13, 14), (14, 1), (1, 14), (14, 3), (3, 14), (14, 7), (7, 14)]
        with support.good_time():
            for many, wide in shapes:
                rows = support.some_rows(source, many, wide, -TWENTY, TWENTY)
                stair = self.check(wide, rows)
                mixings = stair_with(wide, rows)[1]
                self.assertLess(support.most_figures(stair), 320)
                self.assertLess(support.most_figures(mixings), 700)
                word = support.times_product(support.some_rows(source, 1, many, -TWENTY, TWENTY), rows, wide)[0]
                self.check_reached(wide, rows, word)

    def test_many_rows_of_great_numbers_that_hang_together(self):
        source = support.chance(6)
        with support.good_time():
            for between in (1, 2, 5, 13):
                one = support.some_rows(source, 14, between, -(10 ** 10), 10 ** 10)
                other = support.some_rows(source, between, 14, -(10 ** 8), 10 ** 8)
                rows = support.times_product(one, other, 14)
                self.assertEqual(len(self.check(14, rows)), between)
                self.assertLess(support.most_figures(stair_with(14, rows)[1]), 700)

    def test_told_rows_of_greater_numbers(self):
        source = support.chance(8)
        rows = support.some_rows(source, 10, 10, -(10 ** 100), 10 ** 100)
        with support.good_time():
            stair, mixings = stair_with(10, rows)
            self.assertEqual(support.times_product(mixings, rows, 10), stair)
            self.assertEqual(stair_of(10, stair + mixings), stair_of(10, mixings + stair))


if __name__ == "__main__":
    unittest.main()
