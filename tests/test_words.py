"""Point 11: words that are nought or not."""

import itertools
import unittest

import support
from commonhouse.given import is_given
from commonhouse.stairs import mixing
from commonhouse.words import nought_or_not

THIRTY = 10 ** 30 - 1


def dividing(n, number):
    return number == 0 if n == 0 else number % n == 0


def sums(one, other):
    return sum(x * y for x, y in zip(one, other))


class NoughtOrNot(unittest.TestCase):
    def check(self, given, word):
        """Reckon what is told; whether it is nought is told, too."""
        many, rules = given
        told = nought_or_not(given, word)
        self.assertIs(type(told), tuple)
        self.assertTrue(support.is_plain(told))
        if told[0] == "yes":
            self.assertEqual(len(told), 2)
            self.assertIs(type(told[1]), tuple)
            self.assertEqual(len(told[1]), len(rules))
            self.assertEqual(support.times_product((told[1],), rules, many)[0], word)
            return True
        self.assertEqual((told[0], len(told)), ("no", 3))
        n, row = told[1:]
        self.assertTrue(n == 0 or n >= 2, told)
        self.assertIs(type(row), tuple)
        self.assertEqual(len(row), many)
        self.assertTrue(all(dividing(n, sums(rule, row)) for rule in rules), (given, word, told))
        self.assertFalse(dividing(n, sums(word, row)), (given, word, told))
        return False

    def test_examples(self):
        self.assertTrue(self.check((1, ((4,), (6,))), (10,)))
        self.assertFalse(self.check((1, ((4,), (6,))), (5,)))
        self.assertTrue(self.check((2, ((2, 0), (0, 3))), (4, -9)))
        self.assertFalse(self.check((2, ((2, 0), (0, 3))), (4, -8)))
        self.assertFalse(self.check((2, ((1, 1),)), (1, 2)))
        self.assertEqual(nought_or_not((2, ((1, 1),)), (1, 2))[1], 0)
        self.assertEqual(nought_or_not((1, ((4,), (6,))), (5,))[1], 2)

    def test_no_makers(self):
        self.assertEqual(nought_or_not((0, ()), ()), ("yes", ()))
        for many in (1, 8):
            self.assertTrue(self.check((0, ((),) * many), ()))

    def test_no_rules(self):
        self.assertEqual(nought_or_not((3, ()), (0, 0, 0)), ("yes", ()))
        for word in [(1, 0, 0), (0, 0, -1), (0, THIRTY, 0)]:
            self.assertFalse(self.check((3, ()), word))

    def test_rules_of_noughts(self):
        self.assertTrue(self.check((2, ((0, 0),) * 8), (0, 0)))
        self.assertFalse(self.check((2, ((0, 0),) * 8), (0, 1)))
        self.assertFalse(self.check((2, ((0, 0), (5, 0))), (0, 1)))
        self.assertFalse(self.check((2, ((0, 0), (5, 0))), (1, 0)))
        self.assertTrue(self.check((2, ((0, 0), (5, 0))), (-10, 0)))

    def test_small_given_houses_all_words(self):
        for rules in itertools.product(itertools.product((-2, 0, 3), repeat=2), repeat=2):
            reached = {
                (x * rules[0][0] + y * rules[1][0], x * rules[0][1] + y * rules[1][1])
                for x in range(-25, 26) for y in range(-25, 26)
            }
            for word in itertools.product(range(-2, 3), repeat=2):
                self.assertEqual(self.check((2, rules), word), word in reached, (rules, word))

    def test_the_same_as_whether_it_can_be_reached(self):
        source = support.chance(41)
        for many in range(6):
            for count in range(9):
                for limit in (2, 99):
                    rules = support.some_rows(source, count, many, -limit, limit)
                    given = (many, rules)
                    self.assertTrue(is_given(given))
                    numbers = support.some_rows(source, 1, count, -9, 9)[0]
                    word = support.times_product((numbers,), rules, many)[0]
                    self.assertTrue(self.check(given, word))
                    for other in support.some_rows(source, 3, many, -9, 9):
                        self.assertEqual(self.check(given, other), mixing(many, rules, other) is not None)

    def test_five_makers_eight_rules_and_great_words(self):
        rules = ((99, -99, 0, 0, 0), (0, 99, -99, 0, 0), (0, 0, 99, -99, 0), (0, 0, 0, 99, -99),
                 (99, 99, 99, 99, 99), (-99, 0, 99, 0, -99), (99, 0, 0, 0, 99), (0, 0, 99, 0, 0))
        with support.good_time():
            self.assertTrue(self.check((5, rules), (99 * THIRTY, 0, 99, 0, -99)))
            self.assertFalse(self.check((5, rules), (THIRTY - 1, -THIRTY, THIRTY, 1, 0)))
            self.assertFalse(self.check((5, rules), (1, 0, 0, 0, 0)))
            self.assertTrue(self.check((5, rules), (0, 0, 0, 0, 0)))
            source = support.chance(42)
            for _ in range(20):
                given = (5, support.some_rows(source, source.choice((4, 5, 6, 8)), 5, -99, 99))
                for word in support.some_rows(source, 3, 5, -THIRTY, THIRTY):
                    self.check(given, word)

    def test_words_that_are_nought_only_so_many_times(self):
        given = (3, ((2, 4, 4), (-6, 6, 12), (10, 4, 16)))
        for word in [(1, 0, 0), (0, 1, 0), (0, 0, 1)]:
            self.assertFalse(self.check(given, word))
            self.assertTrue(self.check(given, tuple(156 * x for x in word)))

    def test_what_is_handed_in_stays_as_it_was(self):
        given, word = (2, ((1, 2), (3, 4))), (5, 6)
        nought_or_not(given, word)
        self.assertEqual((given, word), ((2, ((1, 2), (3, 4))), (5, 6)))


if __name__ == "__main__":
    unittest.main()
