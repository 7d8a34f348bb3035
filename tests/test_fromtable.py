"""Point 32: the names of the numbers of a table, and whether names are such."""

import copy
import unittest

import support
import test_tables
from commonhouse.errors import NoTable
from commonhouse.forms import form_of
from commonhouse.fromtable import lets_names, names_of
from commonhouse.tables import lets_table, table_of

HOUSES = test_tables.HOUSES + [(7,), (9,), (10,), (2, 5), (11,), (6, 2), (13,), (14,), (15,), (2, 1, 2), (2, 8), (4, 2, 2)]


def are_names(table, form, names):
    """Whether names are such for a table, by the document's words."""
    return sorted(names) == support.all_things(form) and len(names) == len(table) and all(
        names[total] == support.sum_of(form, names[a], names[b]) for a, row in enumerate(table) for b, total in enumerate(row)
    )


class NamesOf(unittest.TestCase):
    def check(self, table):
        before = copy.deepcopy(table)
        told = names_of(table)
        self.assertEqual(table, before)
        self.assertTrue(type(told) is tuple and len(told) == 2)
        form, names = told
        self.assertIs(type(names), list)
        self.assertTrue(support.is_plain(told))
        self.assertEqual(form_of(form), form)
        self.assertTrue(are_names(table, form, names), table)
        self.assertIs(lets_names(table, told), True)
        self.assertEqual(table, before)
        return form

    def test_tables_of_houses(self):
        for house in HOUSES:
            self.assertEqual(self.check(table_of(house)), form_of(house))

    def test_numbers_named_anew(self):
        source = support.chance(291)
        for house in HOUSES:
            table = table_of(house)
            for _ in range(8):
                order = list(range(len(table)))
                source.shuffle(order)
                self.assertEqual(self.check(test_tables.turned(table, order)), form_of(house))

    def test_examples(self):
        self.assertEqual(names_of([[0]]), ((), [()]))
        self.assertEqual(names_of([[0, 1], [1, 0]]), ((2,), [(0,), (1,)]))
        self.assertEqual(names_of([[1, 0], [0, 1]]), ((2,), [(1,), (0,)]))

    def test_no_table(self):
        for table in [[], [[0, 0], [0, 0]], test_tables.placings_table(), [[0, 1, 2], [1, 0, 1], [2, 1, 0]], test_tables.most_table(16),
                      [[0, 1], [1, False]], ([0],), [(0,)], [[0] * 17] * 17]:
            why = support.refused(self, NoTable, lets_table, table)
            found = support.refused(self, NoTable, names_of, table)
            self.assertEqual((found.word, found.numbers), (why.word, why.numbers))

    def test_whatever_thing(self):
        for thing in support.ODD_THINGS:
            for handed in (thing, [thing]):
                found = support.refused(self, NoTable, names_of, handed)
                self.assertEqual((found.word, found.numbers), ("shape", ()))

    def test_a_told_list_is_the_askers_own(self):
        table = [[0, 1], [1, 0]]
        told = names_of(table)
        told[1].reverse()
        told[1].append(None)
        self.assertEqual(names_of(table), ((2,), [(0,), (1,)]))


class LetsNames(unittest.TestCase):
    def test_other_names_that_are_such(self):
        table = table_of((2, 2))
        things = support.all_things((2, 2))
        let_by = 0
        for first in things:
            for second in things:
                names = [(0, 0), first, second, support.sum_of((2, 2), first, second)]
                holds = are_names(table, (2, 2), names)
                self.assertIs(lets_names(table, ((2, 2), names)), holds)
                let_by += holds
        self.assertEqual(let_by, 6)
        self.assertIs(lets_names(table_of((5,)), ((5,), [(0,), (2,), (4,), (1,), (3,)])), True)

    def test_two_names_changed_about(self):
        for house in HOUSES:
            table = table_of(house)
            form, names = names_of(table)
            for a in range(len(names)):
                for b in range(a):
                    changed = list(names)
                    changed[a], changed[b] = names[b], names[a]
                    self.assertIs(lets_names(table, (form, changed)), are_names(table, form, changed))

    def test_a_name_twice_or_of_another_house(self):
        for house in [(2,), (4,), (2, 2), (12,), (16,)]:
            table = table_of(house)
            form, names = names_of(table)
            nothing = (0,) * len(form)
            for wrong in [names[:-1], names + [nothing], [nothing] * len(names), names[:-1] + [names[0]], [name + (0,) for name in names],
                          [name[:-1] for name in names], [form] + names[1:], [list(name) for name in names], tuple(names), None, [],
                          dict(enumerate(names)), names[1:] + names[:1]]:
                self.assertIs(lets_names(table, (form, wrong)), False, (house, wrong))

    def test_forms_that_are_none(self):
        # The names are so as they must be, but the house is no form.
        for house in [(2, 3), (3, 2), (4, 2), (1,), (1, 2), (2, 1), (4, 3), (2, 2, 3), (1, 1, 1, 1, 1, 16)]:
            table = table_of(house)
            self.assertNotEqual(form_of(house), house)
            self.assertIs(lets_names(table, (house, support.all_things(house))), False, house)
        for house in [(), (2,), (2, 2), (2, 4), (6,), (2, 6), (16,), (2, 2, 2, 2), (4, 4)]:
            self.assertIs(lets_names(table_of(house), (house, support.all_things(house))), True, house)

    def test_forms_of_another_size_or_kind(self):
        for form in [(), (2,), (3,), (8,), (2, 4), (10 ** 40,), (2, 2, 2), [4], None, 4, ("4",), (True, 4), ((4,),), (-4,), (0,), (2,) * 7]:
            for names in [[(0,), (1,), (2,), (3,)], [(0, 0), (0, 1), (1, 0), (1, 1)], []]:
                self.assertIs(lets_names(table_of((4,)), (form, names)), False, form)
        self.assertIs(lets_names(table_of((4,)), ((2, 2), support.all_things((2, 2)))), False)
        self.assertIs(lets_names(table_of((2, 2)), ((4,), support.all_things((4,)))), False)

    def test_names_that_are_not_all_things_of_the_form(self):
        for house, form, many in [((2,), (4,), 2), ((2,), (6,), 3), ((3,), (6,), 2), ((4,), (1000000,), 250000), ((5,), (5 * 10 ** 40,), 10 ** 40)]:
            names = [(many * number,) for number in range(house[0])]
            self.assertIs(lets_names(table_of(house), (form, names)), False, form)
        self.assertIs(lets_names([[0]], ((2,), [(0,)])), False)
        self.assertIs(lets_names(table_of((2,)), ((2, 2), [(0, 0), (1, 1)])), False)

    def test_what_is_no_table(self):
        for table in [[], [[0, 0], [0, 0]], [[0, 1], [1, 1]], [[0, 1], [1, 2]], [[0, 1], [1]], [(0, 1), (1, 0)], ([0, 1], [1, 0]), None, 5, [[0, 1], [1, False]]]:
            self.assertIs(lets_names(table, ((2,), [(0,), (1,)])), False, table)

    def test_truths_among_the_numbers(self):
        table = [[0, 1], [1, 0]]
        self.assertIs(lets_names(table, ((2,), [(0,), (1,)])), True)
        for names in [[(False,), (1,)], [(0,), (True,)], [False, (1,)], [(0,), 1]]:
            self.assertIs(lets_names(table, ((2,), names)), False, names)
        self.assertIs(lets_names([[0]], ((), [()])), True)
        self.assertIs(lets_names([[0]], ((True,), [(0,)])), False)

    def test_whatever_thing(self):
        for table in [[[0]], [[0, 1], [1, 0]], table_of((2, 2))]:
            form, names = names_of(table)
            for thing in support.ODD_THINGS + [(form, names, names), (form,), [form, names], (names, form), (form, form), (names, names)]:
                self.assertIs(lets_names(table, thing), False, thing)
                self.assertIs(lets_names(table, (thing, names)), False, thing)
                self.assertIs(lets_names(table, (form, thing)), False, thing)
                self.assertIs(lets_names(table, (form, [thing] + names[1:])), False, thing)

    def test_what_is_handed_in_stays_as_it_was(self):
        table, names = [[0, 1], [1, 0]], [(0,), (1,)]
        lets_names(table, ((2,), names))
        self.assertEqual((table, names), ([[0, 1], [1, 0]], [(0,), (1,)]))


if __name__ == "__main__":
    unittest.main()
