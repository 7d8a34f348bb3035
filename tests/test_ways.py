"""Point 15: ways, how they lead, stay and none."""

import itertools
import unittest

import support
from commonhouse.errors import NoThing
from commonhouse.ways import is_way, led, none_way, stay

HOUSES = [(), (1,), (2,), (6,), (1, 1), (2, 4), (4, 2), (2, 1, 3), (2, 2, 2), (1, 2, 1, 3, 1, 2)]
GREAT = [(1000000,) * 6, (1, 1, 1, 1, 1, 1000000), (999983, 720720), (10 ** 36, 7 * 10 ** 80)]
SOME_WAY = ((4, 6), (8, 9), ((2, 0), (4, 3)))


class IsWay(unittest.TestCase):
    def test_ways(self):
        for way in [SOME_WAY, ((), (), ()), ((), (5,), ()), ((5,), (), ((),)), ((1,), (7,), ((0,),)), ((7,), (1,), ((0,),)),
                    ((2,), (4,), ((2,),)), ((10 ** 40,), (10 ** 41,), ((10,),)), ((1,) * 6, (1,) * 6, ((0,) * 6,) * 6)]:
            self.assertIs(is_way(way), True, way)

    def test_all_small_ones_by_the_words_of_the_document(self):
        for one, other in [((2,), (4,)), ((4,), (2,)), ((2, 3), (6,)), ((6,), (2, 3)), ((2, 2), (2, 1)), ((3,), (5,))]:
            for images in itertools.product(support.all_things(other), repeat=len(one)):
                fits = not any(any(support.many_times(other, limit, image)) for limit, image in zip(one, images))
                self.assertIs(is_way((one, other, images)), fits, (one, other, images))

    def test_images_that_do_not_fall(self):
        for way in [((2,), (4,), ((1,),)), ((2,), (4,), ((3,),)), ((3,), (5,), ((1,),)), ((1,), (7,), ((1,),)),
                    ((4, 6), (8, 9), ((2, 0), (4, 1))), ((10 ** 40,), (10 ** 41,), ((1,),))]:
            self.assertIs(is_way(way), False, way)

    def test_numbers_at_the_round_and_below_nought(self):
        for images in [((8, 0), (4, 3)), ((2, 9), (4, 3)), ((-2, 0), (4, 3)), ((2, 0), (4, -3)), ((2, 0), (12, 3))]:
            self.assertIs(is_way(SOME_WAY[:2] + (images,)), False, images)

    def test_a_part_more_or_less(self):
        one, other, images = SOME_WAY
        for thing in [(), (one,), (one, other), SOME_WAY + ((),), (one, other, images[:1]), (one, other, images + ((0, 0),)),
                      (one, other, ()), (one, other, ((2,), (4,))), (one, other, ((2, 0, 0), (4, 3, 0)))]:
            self.assertIs(is_way(thing), False, thing)

    def test_lists_in_the_place_of_tuples(self):
        one, other, images = SOME_WAY
        for thing in [list(SOME_WAY), ([4, 6], other, images), (one, [8, 9], images), (one, other, list(images)),
                      (one, other, ([2, 0], (4, 3))), (one, other, ((2, 0), [4, 3]))]:
            self.assertIs(is_way(thing), False, thing)

    def test_houses_that_are_none(self):
        for thing in [((0,), (2,), ((0,),)), ((-2,), (2,), ((0,),)), ((2,), (0,), ((0,),)), ((True,), (2,), ((0,),)),
                      ((2,), (True,), ((0,),)), ((2,) * 7, (2,), ((0,),) * 7), ((2,), (2,) * 7, ((0,) * 7,))]:
            self.assertIs(is_way(thing), False, thing)

    def test_whatever_thing(self):
        for thing in support.ODD_THINGS + [((), ()), [(), (), ()], ((),) * 4]:
            self.assertIs(is_way(thing), False, thing)

    def test_whatever_thing_in_the_place_of_a_part(self):
        for part in range(3):
            for thing in support.ODD_THINGS:
                self.assertIs(is_way(SOME_WAY[:part] + (thing,) + SOME_WAY[part + 1:]), False, (part, thing))
        for thing in support.ODD_THINGS:
            self.assertIs(is_way(SOME_WAY[:2] + (((2, 0), thing),)), False, thing)
            self.assertIs(is_way(SOME_WAY[:2] + (((2, thing), (4, 3)),)), thing == 0 and thing is not False, thing)
            if thing not in (1, 10 ** 40) or thing is True:
                self.assertIs(is_way(((thing,), (2,), ((0,),))), False, thing)

    def test_what_is_handed_in_stays_as_it_was(self):
        handed = [[4, 6], [8, 9], [[2, 0], [4, 3]]]
        self.assertIs(is_way(handed), False)
        self.assertEqual(handed, [[4, 6], [8, 9], [[2, 0], [4, 3]]])


class Led(unittest.TestCase):
    def test_examples(self):
        self.assertEqual(led(SOME_WAY, (1, 0)), (2, 0))
        self.assertEqual(led(SOME_WAY, (0, 1)), (4, 3))
        self.assertEqual(led(SOME_WAY, (3, 5)), (2, 6))
        self.assertEqual(led(((), (5,), ()), ()), (0,))
        self.assertEqual(led(((5,), (), ((),)), (4,)), ())

    def test_sums_are_led_to_sums(self):
        for way in [SOME_WAY, ((2, 2), (4,), ((2,), (2,))), ((6,), (2, 3), ((1, 2),)), stay((4, 2))]:
            one, other, _ = way
            for a in support.all_things(one):
                self.assertEqual(led(way, a), support.lead(way, a))
                for b in support.all_things(one):
                    both = led(way, support.sum_of(one, a, b))
                    self.assertEqual(both, support.sum_of(other, led(way, a), led(way, b)))

    def test_great_ways(self):
        way = ((10 ** 36,), (10 ** 40,), ((3 * 10 ** 4,),))
        self.assertTrue(is_way(way))
        self.assertEqual(led(way, (10 ** 36 - 1,)), (10 ** 40 - 3 * 10 ** 4,))
        support.refused(self, NoThing, led, way, (10 ** 36,))

    def test_what_is_no_thing(self):
        wrong = support.ODD_THINGS + [(), (0,), (0, 0, 0), (4, 0), (0, 6), (-1, 0), (0, -1), [0, 0], SOME_WAY]
        for thing in wrong:
            support.refused(self, NoThing, led, SOME_WAY, thing)
        for thing in support.ODD_THINGS + [(0,), []]:
            support.refused(self, NoThing, led, ((), (5,), ()), thing)

    def test_what_is_told_is_plain(self):
        self.assertTrue(support.is_plain(led(SOME_WAY, (1, 1))))


class StayAndNone(unittest.TestCase):
    def test_stay(self):
        for house in HOUSES:
            way = stay(house)
            self.assertTrue(support.shows_a_way(house, house, way), house)
            self.assertIs(is_way(way), True)
            for thing in support.all_things(house):
                self.assertEqual(led(way, thing), thing)

    def test_none(self):
        for one in HOUSES:
            for other in HOUSES:
                way = none_way(one, other)
                self.assertTrue(support.shows_a_way(one, other, way), (one, other))
                self.assertIs(is_way(way), True)
                self.assertTrue(all(led(way, thing) == (0,) * len(other) for thing in support.all_things(one)))

    def test_great_houses(self):
        source = support.chance(71)
        for house in GREAT:
            self.assertTrue(support.shows_a_way(house, house, stay(house)))
            self.assertTrue(is_way(stay(house)) and is_way(none_way(house, (2, 3))) and is_way(none_way((2, 3), house)))
            for _ in range(10):
                thing = support.some_thing(source, house)
                self.assertEqual(led(stay(house), thing), thing)
                self.assertEqual(led(none_way(house, (2, 3)), thing), (0, 0))

    def test_examples(self):
        self.assertEqual(stay((1, 2)), ((1, 2), (1, 2), ((0, 0), (0, 1))))
        self.assertEqual(stay(()), ((), (), ()))
        self.assertEqual(none_way((2, 3), (5,)), ((2, 3), (5,), ((0,), (0,))))


if __name__ == "__main__":
    unittest.main()
