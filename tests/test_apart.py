"""Point 19: houses that are alike, and where others are apart; what point 3 says of both."""

import itertools
import unittest

import support
from commonhouse.apart import alike, apart_at
from commonhouse.forms import form_of, to_form
from commonhouse.turns import nought_at
from commonhouse.ways import is_way

HOUSES = [house for many in range(4) for house in itertools.product((1, 2, 3, 4, 6), repeat=many)]
GREAT = (1000000, 720720, 999983, 524288, 531441, 999999)


def nought_so_often(house, n):
    """How many things of a small house are nought n times, counted one by one."""
    return sum(not any(support.many_times(house, n, thing)) for thing in support.all_things(house))


class Alike(unittest.TestCase):
    def check(self, one, other):
        there, back = told = alike(one, other)
        self.assertIs(type(told), tuple)
        self.assertTrue(support.shows_a_way(one, other, there) and support.shows_a_way(other, one, back), (one, other))
        self.assertTrue(is_way(there) and is_way(back))
        self.assertTrue(support.there_and_back(there, back), (one, other))

    def test_examples(self):
        for one, other in [((), ()), ((), (1,)), ((1,) * 6, ()), ((2, 3), (6,)), ((6,), (3, 2)), ((4, 6), (2, 12)),
                           ((4, 6), (3, 4, 2)), ((1, 1, 1, 1, 1, 48), (16, 3)), ((2, 2, 3), (2, 6))]:
            self.check(one, other)
        for one, other in [((), (2,)), ((4,), (2, 2)), ((2, 8), (4, 4)), ((9, 3), (27,)), ((2,), (3,)), ((6, 6), (36,))]:
            self.assertIsNone(alike(one, other), (one, other))
            self.assertIsNone(alike(other, one), (one, other))

    def test_just_where_as_many_things_are_nought_so_often(self):
        counts = {house: [nought_so_often(house, n) for n in range(1, 13)] for house in HOUSES}
        source = support.chance(101)
        pairs = [(one, other) for one in HOUSES for other in HOUSES if source.random() < 0.12 or counts[one] == counts[other]]
        for one, other in pairs:
            same = counts[one] == counts[other]
            self.assertEqual(form_of(one) == form_of(other), same, (one, other))
            if same:
                self.check(one, other)
                self.assertIsNone(apart_at(one, other))
            else:
                self.assertIsNone(alike(one, other), (one, other))
                least = next(n for n, x, y in zip(itertools.count(1), counts[one], counts[other]) if x != y)
                self.assertEqual(apart_at(one, other), least, (one, other))

    def test_unlike_things_are_led_to_unlike_ones(self):
        there, back = alike((4, 6), (2, 3, 4))
        led = [support.lead(there, thing) for thing in support.all_things((4, 6))]
        self.assertEqual(sorted(led), support.all_things((2, 3, 4)))
        self.assertEqual([support.lead(back, thing) for thing in led], support.all_things((4, 6)))

    def test_great_houses(self):
        with support.good_time():
            self.check((1000000,) * 6, (1000000,) * 6)
            self.check(GREAT, GREAT[::-1])
            self.check((999983, 999979), (999979, 999983))
            self.check((720720, 1), (16 * 9 * 5, 7 * 11 * 13))
            self.assertIsNone(alike((1000000,) * 6, (1000000,) * 5 + (999999,)))
            self.assertIsNone(alike((1000000, 1), (1000, 1000)))

    def test_told_houses_however_great(self):
        form = form_of(GREAT)
        beyond = tuple(3 * 10 ** (40 + at) for at in range(6))
        with support.good_time():
            self.check(GREAT, form)
            self.check(form, GREAT)
            self.check(form, form[::-1])
            self.check(beyond, beyond[::-1])
            self.check(to_form(beyond)[0], beyond)
            self.assertIsNone(alike(form, form[1:]))
            self.assertIsNone(alike(beyond, beyond[:5] + (beyond[5] * 3,)))
            self.assertIsNone(alike((10 ** 60,), (10 ** 30, 10 ** 30)))


class ApartAt(unittest.TestCase):
    def test_examples(self):
        for one, other, n in [((), (1,), None), ((2, 3), (6,), None), ((4,), (2, 2), 2), ((2, 8), (4, 4), 4), ((9, 3), (27,), 3),
                              ((2,), (3,), 2), ((), (7,), 7), ((4,), (8,), 8), ((2, 25), (2, 5), 25), ((5, 9), (5, 27), 27),
                              ((3, 8), (9, 16), 9), ((27, 4), (9, 8), 8), ((1,) * 6, (), None)]:
            self.assertEqual(apart_at(one, other), n, (one, other))
            self.assertEqual(apart_at(other, one), n, (one, other))

    def test_by_counting_things(self):
        for one, other in [((8, 3), (4, 6)), ((12,), (2, 6)), ((16, 2), (8, 4)), ((27, 2), (9, 6)), ((5, 5), (25,))]:
            n = apart_at(one, other)
            self.assertNotEqual(nought_so_often(one, n), nought_so_often(other, n))
            for less in range(1, n):
                self.assertEqual(nought_so_often(one, less), nought_so_often(other, less))

    def test_great_houses(self):
        with support.good_time():
            for one, other, n in [((1000000,) * 6, (1000000,) * 5 + (500000,), 64), ((524288,), (262144,), 524288),
                                  ((1000000,), (1000, 1000), 2), ((999983,), (999979,), 999979), ((999983,) * 6, (999983,) * 5, 999983),
                                  ((531441, 1), (177147, 3), 3), (GREAT, GREAT[::-1], None), ((1,) * 5 + (1000000,), (64, 15625), None),
                                  ((999983,), (), 999983), (GREAT, GREAT[:5] + (1,), 3)]:
                self.assertEqual(apart_at(one, other), n, (one, other))
                if n is not None:
                    self.assertNotEqual(nought_at(one, n), nought_at(other, n))

    def test_what_is_handed_in_stays_as_it_was(self):
        one, other = (4, 6), (2, 12)
        apart_at(one, other)
        alike(one, other)
        self.assertEqual((one, other), ((4, 6), (2, 12)))


if __name__ == "__main__":
    unittest.main()
