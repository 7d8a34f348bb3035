"""Point 18: the form of a house, and the ways to it and back."""

import itertools
import unittest

import support
from commonhouse.forms import form_of, to_form
from commonhouse.papers import paper_of
from commonhouse.waydeeds import then
from commonhouse.ways import is_way, stay

TABLE = [
    ((), ()), ((1,), ()), ((1,) * 6, ()), ((2,), (2,)), ((1, 2), (2,)), ((2, 1), (2,)), ((2, 3), (6,)), ((4, 6), (2, 12)),
    ((2, 2), (2, 2)), ((4, 2), (2, 4)), ((2, 3, 5, 7, 11, 13), (30030,)), ((6, 10, 15), (30, 30)),
    ((12, 18, 8, 27, 1, 5), (6, 36, 1080)), ((1000000,) * 6, (1000000,) * 6),
    ((1000000,), (1000000,)), ((1, 1, 1, 1, 1, 1000000), (1000000,)), ((999983, 999979), (999983 * 999979,)),
]
GREAT = [(1000000, 720720, 999983, 524288, 531441, 999999), (999983, 999979, 999961, 999959, 999953, 999931),
         (720720, 830830, 930930, 510510, 690690, 870870), (2 ** 19, 3 ** 12, 5 ** 8, 7 ** 7, 6 ** 7, 10 ** 6)]


class Forms(unittest.TestCase):
    def check(self, house):
        form, there, back = told = to_form(house)
        self.assertIs(type(told), tuple)
        self.assertTrue(support.is_plain(told))
        self.assertEqual(form_of(house), form)
        self.assertTrue(all(limit > 1 for limit in form), form)
        self.assertTrue(all(later % limit == 0 for limit, later in zip(form, form[1:])), form)
        self.assertTrue(support.shows_a_way(house, form, there), house)
        self.assertTrue(support.shows_a_way(form, house, back), house)
        self.assertTrue(is_way(there) and is_way(back))
        self.assertTrue(support.there_and_back(there, back), house)
        self.assertEqual(then(there, back), stay(house))
        self.assertEqual(then(back, there), stay(form))
        return form

    def test_examples(self):
        for house, form in TABLE:
            self.assertEqual(self.check(house), form)
        self.assertEqual(to_form(()), ((), ((), (), ()), ((), (), ())))

    def test_small_houses_all(self):
        for many in range(4):
            for house in itertools.product((1, 2, 3, 4, 6, 12), repeat=many):
                form = self.check(house)
                self.assertEqual(form_of(form), form)
                self.assertEqual(form_of(house[::-1]), form)

    def test_unlike_things_are_led_to_unlike_ones(self):
        for house in [(4, 6), (2, 3, 4), (1, 6, 1, 4), (2, 2, 3)]:
            form, there, back = to_form(house)
            led = [support.lead(there, thing) for thing in support.all_things(house)]
            self.assertEqual(sorted(led), support.all_things(form))
            self.assertEqual([support.lead(back, thing) for thing in led], support.all_things(house))

    def test_the_same_as_of_the_given_house(self):
        for house in [(), (1,), (4, 6), (8, 12, 18), (99, 98, 96, 90, 75)]:
            rules = tuple(tuple(limit * int(at == place) for place in range(len(house))) for at, limit in enumerate(house))
            self.assertEqual(paper_of((len(house), rules))[0], form_of(house))

    def test_great_houses(self):
        source = support.chance(91)
        with support.good_time():
            for house in GREAT:
                form = self.check(house)
                self.assertEqual(self.check(form), form)
                self.assertEqual(self.check(form[::-1]), form)
            for _ in range(60):
                self.check(tuple(source.randint(1, 1000000) for _ in range(6)))
            for _ in range(20):
                measure = source.randint(1, 999)
                self.check(tuple(measure * source.randint(1, 1000) for _ in range(source.randint(0, 6))))

    def test_told_houses_beyond(self):
        source = support.chance(92)
        with support.good_time():
            for _ in range(10):
                self.check(tuple(source.randint(1, 10 ** 12) * source.randint(1, 10 ** 60) for _ in range(6)))

    def test_what_is_handed_in_stays_as_it_was(self):
        house = (4, 6)
        to_form(house)
        form_of(house)
        self.assertEqual(house, (4, 6))


if __name__ == "__main__":
    unittest.main()
