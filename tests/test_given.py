"""Point 11: given houses."""

import unittest

import support
from commonhouse.given import is_given


class IsGiven(unittest.TestCase):
    def test_given_houses(self):
        for thing in [(0, ()), (0, ((),)), (0, ((),) * 8), (1, ()), (5, ()), (1, ((0,),)), (2, ((1, 2), (3, -4))),
                      (5, ((99,) * 5,) * 8), (5, ((-99,) * 5,) * 8), (3, ((0, 0, 0),) * 8), (1, ((99,), (-99,)))]:
            self.assertIs(is_given(thing), True, thing)

    def test_how_many_makers(self):
        for many in [-1, 6, 7, 10 ** 40, True, False, None, "2", (2,), [2]]:
            self.assertIs(is_given((many, ())), False, many)
        self.assertIs(is_given((6, ((0,) * 6,))), False)
        self.assertIs(is_given((True, ((1,),))), False)

    def test_how_many_rules(self):
        self.assertIs(is_given((2, ((1, 2),) * 8)), True)
        self.assertIs(is_given((2, ((1, 2),) * 9)), False)
        self.assertIs(is_given((0, ((),) * 9)), False)

    def test_numbers_beyond_99_either_way(self):
        for number in (100, -100, 10 ** 40, -(10 ** 40)):
            self.assertIs(is_given((2, ((number, 0),))), False)
            self.assertIs(is_given((2, ((0, 0), (0, number)))), False)

    def test_rules_too_long_or_too_short(self):
        for thing in [(2, ((1,),)), (2, ((1, 2, 3),)), (2, ((1, 2), (1,))), (0, ((1,),)), (1, ((),)), (2, (1, 2))]:
            self.assertIs(is_given(thing), False, thing)

    def test_a_part_more_or_less(self):
        for thing in [(), (2,), (2, (), ()), (2, ((1, 2),), 0), ((1, 2),), (((1, 2),), 2)]:
            self.assertIs(is_given(thing), False, thing)

    def test_lists_in_the_place_of_tuples(self):
        for thing in [[2, ((1, 2),)], (2, [(1, 2)]), (2, ([1, 2],)), (0, []), (0, ([],))]:
            self.assertIs(is_given(thing), False, thing)

    def test_truths_none_texts_as_numbers(self):
        for number in [True, False, None, "1", "", (), [1]]:
            self.assertIs(is_given((2, ((1, number),))), False, number)

    def test_whatever_thing(self):
        for thing in support.ODD_THINGS:
            self.assertIs(is_given(thing), False, thing)
            self.assertIs(is_given((3, thing)), False, thing)
            self.assertIs(is_given((2, (thing,))), False, thing)
            self.assertIs(is_given((thing, (2,))), False, thing)


if __name__ == "__main__":
    unittest.main()
