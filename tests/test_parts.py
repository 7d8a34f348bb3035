"""Point 21: parts, the things that make them, and the ways into the house."""

import itertools
import unittest

import support
from commonhouse.errors import NoThing, TooGreat
from commonhouse.forms import form_of
from commonhouse.houses import size
from commonhouse.parts import has, is_part, numbers_for, part_of, part_size, part_way, things_in
from commonhouse.ways import is_way

HOUSES = [(), (1,), (2,), (12,), (1, 1), (2, 2), (4, 2), (2, 4), (4, 6), (1, 4), (4, 1), (2, 3, 2), (3, 1, 3), (2, 2, 2)]
SIX = (1000000, 720720, 999983, 524288, 531441, 999999)
GREAT = [SIX, (1000000,) * 6, (1, 1, 1, 1, 1, 1000000), (720720, 1, 360360), (12 * 10 ** 40, 10 ** 60, 6 * 10 ** 50)]
LIST_OR_TUPLE = (list, tuple)


def nought_part(house):
    return tuple(tuple(limit * int(place == at) for place in range(len(house))) for at, limit in enumerate(house))


def whole(house):
    return support.square_units(len(house))


def come_to(house, numbers, some):
    """What some things come to, so many times each."""
    found = (0,) * len(house)
    for many, thing in zip(numbers, some):
        found = support.sum_of(house, found, support.many_times(house, many, thing))
    return found


class IsPart(unittest.TestCase):
    def test_parts(self):
        for house, part in [((), ()), ((1,), ((1,),)), ((6,), ((3,),)), ((2, 2), ((1, 1), (0, 2))), ((4, 6), ((2, 3), (0, 6))),
                            ((4, 6), ((1, 0), (0, 1))), ((1, 1, 1), ((1, 0, 0), (0, 1, 0), (0, 0, 1))), ((10 ** 60,), ((10 ** 30,),))]:
            self.assertIs(is_part(house, part), True, (house, part))
            self.assertTrue(support.shows_a_part(house, part))

    def test_nought_and_the_whole_house(self):
        for house in HOUSES + GREAT:
            self.assertIs(is_part(house, nought_part(house)), True, house)
            self.assertIs(is_part(house, whole(house)), True, house)

    def test_rows_by_the_words_of_the_document(self):
        for house in [(2, 2), (4, 2), (1, 3), (2, 4)]:
            found = 0
            for rows in itertools.product(itertools.product(range(-1, 5), repeat=2), repeat=2):
                shown = support.shows_a_part(house, rows)
                self.assertIs(is_part(house, rows), shown, (house, rows))
                found += shown
            self.assertEqual(found, len(support.part_sets(house)), house)

    def test_rows_too_many_or_too_few(self):
        for house, rows in [((), ((),)), ((6,), ()), ((6,), ((3,), (0,))), ((6,), ((3,), (6,))), ((4, 6), ((1, 0),)),
                            ((4, 6), ((1, 0), (0, 1), (0, 0))), ((4, 6), ((1,), (0,))), ((4, 6), ((1, 0, 0), (0, 1, 0)))]:
            self.assertIs(is_part(house, rows), False, (house, rows))

    def test_feet_numbers_above_and_rows_that_tell_no_part(self):
        for house, rows in [((4, 6), ((0, 1), (0, 2))), ((4, 6), ((0, 1), (1, 0))), ((4, 6), ((1, 0), (1, 1))),
                            ((4, 6), ((1, 2), (0, 2))), ((4, 6), ((1, -1), (0, 2))), ((4, 6), ((-1, 0), (0, 1))),
                            ((4, 6), ((1, 0), (0, -1))), ((4, 6), ((1, 0), (0, 0))), ((4, 6), ((3, 0), (0, 1))),
                            ((4, 6), ((1, 0), (0, 4))), ((4, 6), ((8, 0), (0, 1))), ((4, 6), ((1, 1), (0, 6))),
                            ((4, 6), ((1, 0), (0, 12))), ((2, 4), ((1, 1), (0, 4))), ((10 ** 60,), ((10 ** 60 - 1,),))]:
            self.assertIs(is_part(house, rows), False, (house, rows))

    def test_lists_in_the_place_of_tuples(self):
        for rows in [[(1, 0), (0, 1)], ([1, 0], (0, 1)), ((1, 0), [0, 1]), [[1, 0], [0, 1]]]:
            self.assertIs(is_part((4, 6), rows), False, rows)
        self.assertIs(is_part((), []), False)

    def test_whatever_thing(self):
        for house in HOUSES:
            for thing in support.ODD_THINGS:
                self.assertIs(is_part(house, thing), False, (house, thing))

    def test_whatever_thing_in_the_place_of_a_row_or_a_number(self):
        for thing in support.ODD_THINGS:
            for rows in [((1, 0), thing), (thing, (0, 1)), ((1, thing), (0, 1)), ((thing, 0), (0, 1)), ((1, 0), (thing, 1))]:
                if not (type(thing) is int and rows == ((1, 0), (0, 1))):
                    self.assertIs(is_part((4, 6), rows), False, rows)

    def test_what_is_handed_in_stays_as_it_was(self):
        handed = [[1, 0], [0, 1]]
        is_part((4, 6), handed)
        self.assertEqual(handed, [[1, 0], [0, 1]])


class PartOf(unittest.TestCase):
    def check(self, house, some):
        handed = [list(some), tuple(some)]
        told = [part_of(house, one) for one in handed]
        self.assertEqual(handed, [list(some), tuple(some)])
        self.assertEqual(told[0], told[1])
        self.assertTrue(support.shows_a_part(house, told[0]), (house, some))
        self.assertIs(is_part(house, told[0]), True)
        return told[0]

    def test_examples(self):
        self.assertEqual(self.check((), []), ())
        self.assertEqual(self.check((), [()] * 8), ())
        self.assertEqual(self.check((6,), [(4,)]), ((2,),))
        self.assertEqual(self.check((2, 2), [(1, 1)]), ((1, 1), (0, 2)))
        self.assertEqual(self.check((4, 6), [(2, 3)]), ((2, 3), (0, 6)))
        self.assertEqual(self.check((4, 6), [(1, 0), (0, 1)]), ((1, 0), (0, 1)))
        self.assertEqual(self.check((1, 1), [(0, 0)]), ((1, 0), (0, 1)))

    def test_no_things_and_all(self):
        for house in HOUSES + GREAT:
            self.assertEqual(self.check(house, []), nought_part(house))
            self.assertEqual(self.check(house, [(0,) * len(house)] * 8), nought_part(house))
            self.assertEqual(self.check(house, support.things_with_one(house)), whole(house))

    def test_the_least_part_that_has_them(self):
        source = support.chance(121)
        for house in HOUSES:
            for many in (1, 2, 3, 8):
                for _ in range(6):
                    some = [support.some_thing(source, house) for _ in range(many)]
                    part = self.check(house, some)
                    self.assertEqual(support.set_of(house, part), support.made_by(house, some), (house, some))
                    self.assertEqual(part_of(house, some[::-1]), part)

    def test_great_houses(self):
        source = support.chance(122)
        with support.good_time():
            for house in GREAT:
                for many in (1, 2, 5, 8):
                    some = [support.many_times(house, source.choice((1, 2, 6)), support.some_thing(source, house)) for _ in range(many)]
                    part = self.check(house, some)
                    self.assertTrue(all(has(house, part, thing) for thing in some))
                    numbers = [source.randint(-10 ** 30, 10 ** 30) for _ in some]
                    self.assertIs(has(house, part, come_to(house, numbers, some)), True)
                    self.assertEqual(size(house) % part_size(house, part), 0)

    def test_what_is_no_thing(self):
        wrong = support.ODD_THINGS + [(), (0,), (0, 0, 0), (4, 0), (0, 6), (-1, 0), (0, -1), [0, 0]]
        for thing in wrong:
            for kind in LIST_OR_TUPLE:
                support.refused(self, NoThing, part_of, (4, 6), kind([thing]))
                support.refused(self, NoThing, part_of, (4, 6), kind([(1, 1)] * 7 + [thing]))
        for thing in support.ODD_THINGS + [(0,)]:
            support.refused(self, NoThing, part_of, (), [thing])
        support.refused(self, NoThing, part_of, (10 ** 60,), [(10 ** 60,)])


class Has(unittest.TestCase):
    def test_small_houses_all(self):
        for house in HOUSES:
            for held in support.part_sets(house):
                part = part_of(house, min_makers(house, held))
                for thing in support.all_things(house):
                    self.assertIs(has(house, part, thing), thing in held, (house, part, thing))

    def test_great_houses(self):
        for house in GREAT:
            part = part_of(house, [support.many_times(house, 2, thing) for thing in support.things_with_one(house)])
            even = tuple(limit - limit % 2 - 2 if limit > 2 else 0 for limit in house)
            self.assertIs(has(house, part, even), True)
            for at, limit in enumerate(house):
                if limit % 2 == 0:
                    self.assertIs(has(house, part, even[:at] + (limit - 1,) + even[at + 1:]), False)

    def test_what_is_no_thing(self):
        for part in [((1, 0), (0, 1)), ((4, 0), (0, 6)), ((2, 3), (0, 6))]:
            for thing in support.ODD_THINGS + [(), (0,), (0, 0, 0), (4, 0), (0, 6), (-1, 0), (0, -1), [0, 0], (4, 6)]:
                support.refused(self, NoThing, has, (4, 6), part, thing)
        for thing in support.ODD_THINGS + [(0,)]:
            support.refused(self, NoThing, has, (), (), thing)


def min_makers(house, held):
    """Some things that make a set of things, as few as are met with going through it."""
    found = []
    for thing in sorted(held):
        if thing not in support.made_by(house, found):
            found.append(thing)
    return found


class NumbersFor(unittest.TestCase):
    def check(self, house, some, thing):
        """What is told for a list and for a tuple, reckoned."""
        for kind in LIST_OR_TUPLE:
            handed = kind(some)
            told = numbers_for(house, handed, thing)
            self.assertEqual(handed, kind(some))
            if told is not None:
                self.assertIs(type(told), tuple)
                self.assertTrue(support.is_plain(told))
                self.assertEqual(len(told), len(some))
                self.assertEqual(come_to(house, told, some), thing, (house, some))
        return told

    def test_examples(self):
        self.assertIsNotNone(self.check((6,), [(4,)], (2,)))
        self.assertIsNone(self.check((6,), [(4,)], (3,)))
        self.assertEqual(self.check((), [], ()), ())
        self.assertEqual(len(self.check((), [()] * 8, ())), 8)
        self.assertEqual(self.check((4, 6), [], (0, 0)), ())
        self.assertIsNone(self.check((4, 6), [], (0, 1)))
        self.assertIsNotNone(self.check((1, 1), [], (0, 0)))

    def test_small_houses(self):
        source = support.chance(131)
        for house in HOUSES:
            for many in (0, 1, 2, 8):
                some = [support.some_thing(source, house) for _ in range(many)]
                made = support.made_by(house, some)
                for thing in support.all_things(house):
                    self.assertEqual(self.check(house, some, thing) is not None, thing in made, (house, some, thing))

    def test_great_houses(self):
        source = support.chance(132)
        with support.good_time():
            for house in GREAT:
                for many in (1, 3, 8):
                    some = [support.many_times(house, 2, support.some_thing(source, house)) for _ in range(many)]
                    thing = come_to(house, [source.randint(-10 ** 30, 10 ** 30) for _ in some], some)
                    self.assertIsNotNone(self.check(house, some, thing))
                    at = next(at for at, limit in enumerate(house) if limit % 2 == 0)
                    odd = support.sum_of(house, thing, tuple(int(place == at) for place in range(len(house))))
                    self.assertIsNone(self.check(house, some, odd))
                self.assertIsNotNone(self.check(house, support.things_with_one(house), support.some_thing(source, house)))

    def test_what_is_no_thing(self):
        for thing in support.ODD_THINGS + [(), (0,), (0, 0, 0), (4, 0), (0, 6), (-1, 0), (0, -1), [0, 0]]:
            support.refused(self, NoThing, numbers_for, (4, 6), [(1, 1)], thing)
            support.refused(self, NoThing, numbers_for, (4, 6), [], thing)
            support.refused(self, NoThing, numbers_for, (4, 6), [(1, 1), thing], (0, 0))
            support.refused(self, NoThing, numbers_for, (4, 6), (thing, (1, 1)), (0, 0))
            support.refused(self, NoThing, numbers_for, (4, 6), (thing,), thing)


class Things(unittest.TestCase):
    def test_small_houses_all(self):
        for house in HOUSES:
            for held in support.part_sets(house):
                part = part_of(house, min_makers(house, held))
                self.assertEqual(part_size(house, part), len(held))
                told = things_in(house, part)
                self.assertIs(type(told), list)
                self.assertTrue(support.is_plain(told))
                self.assertEqual(told, sorted(held), (house, part))

    def test_sizes_of_great_ones(self):
        for house in GREAT:
            self.assertEqual(part_size(house, nought_part(house)), 1)
            self.assertEqual(part_size(house, whole(house)), size(house))
        self.assertEqual(part_size((1000000,) * 6, part_of((1000000,) * 6, [(2,) * 6])), 500000)
        self.assertEqual(part_size((10 ** 60,), ((10 ** 20,),)), 10 ** 40)

    def test_400_and_more(self):
        cases = [((400,), [(1,)], 400), ((401,), [(1,)], 401), ((20, 20), [(1, 0), (0, 1)], 400), ((802,), [(2,)], 401),
                 ((1000000,), [(2500,)], 400), ((1000000,), [(2000,)], 500), ((1000000,) * 6, [(200000,) * 6], 5),
                 ((1000000,) * 6, [(50000, 0, 0, 1, 0, 0)], 1000000), ((400 * 10 ** 60,), [(10 ** 60,)], 400),
                 ((1, 1, 1, 1, 1, 1000000), [(0, 0, 0, 0, 0, 2500)], 400), ((401 * 10 ** 60, 2), [(10 ** 60, 0)], 401),
                 ((1000000, 1000000), [(50000, 500000), (0, 100000)], 200), ((21, 20), [(1, 0), (0, 1)], 420)]
        with support.good_time():
            for house, some, many in cases:
                part = part_of(house, some)
                self.assertEqual(part_size(house, part), many, (house, some))
                if many > 400:
                    support.refused(self, TooGreat, things_in, house, part)
                else:
                    told = things_in(house, part)
                    self.assertEqual((len(told), len(set(told)), told), (many, many, sorted(told)))
                    self.assertTrue(all(has(house, part, thing) for thing in told))
                    if len(some) == 1:
                        self.assertEqual(set(told), {support.many_times(house, n, some[0]) for n in range(many)})

    def test_a_told_list_is_the_askers_own(self):
        told = things_in((4,), ((2,),))
        told.append(None)
        told.reverse()
        self.assertEqual(things_in((4,), ((2,),)), [(0,), (2,)])


class PartWay(unittest.TestCase):
    def check(self, house, part):
        before = repr(part)
        way = part_way(house, part)
        self.assertEqual(repr(part), before)
        form = way[0]
        self.assertTrue(support.shows_a_way(form, house, way), (house, part))
        self.assertIs(is_way(way), True)
        self.assertEqual(form_of(form), form)
        # As many things as the part has, led into it: so each of them is met just once, where none but
        # nought is led to nought; that the images make the part shows the same.
        self.assertEqual(size(form), part_size(house, part))
        self.assertEqual(part_of(house, way[2]), part)
        return way

    def test_small_houses_all(self):
        for house in HOUSES:
            for held in support.part_sets(house):
                way = self.check(house, part_of(house, min_makers(house, held)))
                led = [support.lead(way, thing) for thing in support.all_things(way[0])]
                self.assertEqual(sorted(led), sorted(held), house)

    def test_nought_and_the_whole_house(self):
        for house in HOUSES + GREAT:
            self.assertEqual(self.check(house, nought_part(house)), ((), house, ()))
            self.assertEqual(self.check(house, whole(house))[0], form_of(house))

    def test_great_houses(self):
        source = support.chance(141)
        with support.good_time():
            for house in GREAT:
                for many in (1, 2, 4, 8):
                    some = [support.many_times(house, source.choice((1, 2, 12)), support.some_thing(source, house)) for _ in range(many)]
                    self.check(house, part_of(house, some))


if __name__ == "__main__":
    unittest.main()
