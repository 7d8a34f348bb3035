"""The errors: their classes, their fields, and that none stands under another one."""

import unittest

from commonhouse import errors

PLAIN = ["NoThing", "TooGreat", "NoFit", "NoText", "NoName", "NoRow"]
ALL = PLAIN + ["Endless", "NoPaper", "NoTable"]


def made(name):
    kind = getattr(errors, name)
    if name == "Endless":
        return kind((1, -2))
    if name == "NoPaper":
        return kind("form", 3)
    if name == "NoTable":
        return kind("pair", (1, 2))
    return kind("why")


class Errors(unittest.TestCase):
    def test_each_is_caught_as_itself_as_house_error_and_as_value_error(self):
        for name in ALL:
            for caught in (getattr(errors, name), errors.HouseError, ValueError):
                with self.assertRaises(caught):
                    raise made(name)

    def test_each_is_caught_as_none_of_the_others(self):
        for name in ALL:
            for other in ALL:
                is_other = isinstance(made(name), getattr(errors, other))
                self.assertEqual(is_other, name == other, (name, other))

    def test_each_stands_right_under_house_error(self):
        self.assertEqual(errors.HouseError.__bases__, (ValueError,))
        for name in ALL:
            self.assertEqual(getattr(errors, name).__bases__, (errors.HouseError,), name)

    def test_house_error_is_none_of_those_under_it(self):
        for name in ALL:
            self.assertNotIsInstance(errors.HouseError("why"), getattr(errors, name))

    def test_those_without_fields_are_made_with_a_text_or_with_nothing(self):
        for name in PLAIN + ["HouseError"]:
            self.assertIsInstance(getattr(errors, name)(), errors.HouseError)
            self.assertIsInstance(getattr(errors, name)("why"), errors.HouseError)

    def test_fields_in_their_order(self):
        self.assertEqual(errors.Endless((0, 5)).row, (0, 5))
        paper = errors.NoPaper("round", 4)
        self.assertEqual((paper.word, paper.number), ("round", 4))
        table = errors.NoTable("triple", (1, 2, 3))
        self.assertEqual((table.word, table.numbers), ("triple", (1, 2, 3)))

    def test_fields_of_whatever_numbers_words_and_tuples(self):
        for row in [(), (0,), (10 ** 5000, -1), tuple(range(40))]:
            self.assertEqual(errors.Endless(row).row, row)
            self.assertIsInstance(str(errors.Endless(row)), str)
        for word in ["", "shape", "nothing of the kind"]:
            for number in [0, -7, 10 ** 5000]:
                paper = errors.NoPaper(word, number)
                self.assertEqual((paper.word, paper.number), (word, number))
                self.assertIsInstance(str(paper), str)
            for numbers in [(), (1,), (10 ** 5000, 2, 3, 4)]:
                table = errors.NoTable(word, numbers)
                self.assertEqual((table.word, table.numbers), (word, numbers))
                self.assertIsInstance(str(table), str)


if __name__ == "__main__":
    unittest.main()
