"""Point 8: steps."""

import unittest

import support
from commonhouse.stairs import stair_of
from commonhouse.steps import is_step, stepped, taken_back

THIRTY = 10 ** 30 - 1
ROWS = ((1, 2), (3, 4), (-5, 6))


def some_steps(many):
    pairs = [(i, j) for i in range(many) for j in range(many) if i != j]
    steps = [("add", i, j, k) for i, j in pairs for k in (0, 1, -3, THIRTY, -THIRTY)]
    steps += [("swap", i, j) for i, j in pairs]
    return steps + [("turn", i) for i in range(many)]


class IsStep(unittest.TestCase):
    def test_steps(self):
        for many in (0, 1, 2, 3, 14):
            for step in some_steps(many):
                self.assertIs(is_step(many, step), True, (many, step))

    def test_rows_that_are_not_there(self):
        for step in [("add", 3, 0, 1), ("add", 0, 3, 1), ("add", -1, 0, 1), ("add", 0, -1, 1), ("swap", 0, 3),
                     ("swap", 3, 0), ("swap", -1, 0), ("swap", 0, -1), ("turn", 3), ("turn", -1), ("turn", 10 ** 40)]:
            self.assertIs(is_step(3, step), False, step)
        for step in [("add", 0, 1, 1), ("swap", 0, 1)]:
            self.assertIs(is_step(1, step), False, step)
        self.assertIs(is_step(0, ("turn", 0)), False)

    def test_the_same_row_twice(self):
        for i in range(3):
            self.assertIs(is_step(3, ("add", i, i, 1)), False)
            self.assertIs(is_step(3, ("add", i, i, 0)), False)
            self.assertIs(is_step(3, ("swap", i, i)), False)

    def test_a_part_more_or_less(self):
        for step in [(), ("add",), ("add", 0), ("add", 0, 1), ("add", 0, 1, 2, 3), ("swap",), ("swap", 0),
                     ("swap", 0, 1, 2), ("turn",), ("turn", 0, 1), (0, 1, 2)]:
            self.assertIs(is_step(3, step), False, step)

    def test_truths_none_texts_lists(self):
        for step in [("add", True, 0, 1), ("add", 0, True, 1), ("add", 0, 1, True), ("add", 0, 1, None),
                     ("add", 0, 1, "1"), ("add", 0, None, 1), ("add", "0", 1, 1), ("swap", False, 1), ("swap", 1, False),
                     ("swap", 0, "1"), ("swap", (0,), 1), ("turn", True), ("turn", None), ("turn", "0"), ("turn", [0]),
                     ["add", 0, 1, 1], ["swap", 0, 1], ["turn", 0], "add", "turn", ("Add", 0, 1, 1), ("other", 0, 1),
                     (b"turn", 0), (None, 0), (["turn"], 0), ((), 0), ("", 0), (0, 0), (True, 0, 1)]:
            self.assertIs(is_step(3, step), False, step)

    def test_whatever_thing(self):
        for thing in support.ODD_THINGS:
            for many in (0, 3):
                self.assertIs(is_step(many, thing), False, thing)


class Stepped(unittest.TestCase):
    def test_examples(self):
        self.assertEqual(stepped(ROWS, ("add", 0, 2, 10)), ((-49, 62), (3, 4), (-5, 6)))
        self.assertEqual(stepped(ROWS, ("add", 2, 0, -1)), ((1, 2), (3, 4), (-6, 4)))
        self.assertEqual(stepped(ROWS, ("swap", 0, 2)), ((-5, 6), (3, 4), (1, 2)))
        self.assertEqual(stepped(ROWS, ("swap", 2, 1)), ((1, 2), (-5, 6), (3, 4)))
        self.assertEqual(stepped(ROWS, ("turn", 2)), ((1, 2), (3, 4), (5, -6)))

    def test_by_nought_and_by_thirty_figures(self):
        self.assertEqual(stepped(ROWS, ("add", 1, 0, 0)), ROWS)
        self.assertEqual(stepped(ROWS, ("add", 1, 0, THIRTY))[1], (3 + THIRTY, 4 + 2 * THIRTY))
        self.assertEqual(stepped(ROWS, ("add", 1, 0, -THIRTY))[1], (3 - THIRTY, 4 - 2 * THIRTY))

    def test_width_nought(self):
        for step in some_steps(3):
            self.assertEqual(stepped(((), (), ()), step), ((), (), ()))

    def test_the_step_back_takes_it_back(self):
        source = support.chance(3)
        for many, wide in [(1, 3), (2, 2), (3, 0), (14, 14), (4, 14)]:
            rows = support.some_rows(source, many, wide, -(10 ** 20) + 1, 10 ** 20 - 1)
            for step in some_steps(many):
                back = taken_back(step)
                self.assertIs(is_step(many, back), True, back)
                self.assertEqual(stepped(stepped(rows, step), back), rows, step)
                self.assertTrue(support.is_plain(back))

    def test_steps_change_nothing_of_what_is_reached(self):
        rows = ((2, 4, 6), (3, -3, 9), (0, 8, 5))
        for step in some_steps(3):
            self.assertEqual(stair_of(3, stepped(rows, step)), stair_of(3, rows), step)

    def test_what_is_handed_in_stays_as_it_was(self):
        rows = ((1, 2), (3, 4))
        for step in some_steps(2):
            before = (rows, step)
            told = stepped(rows, step)
            self.assertEqual((rows, step), before)
            self.assertTrue(support.is_plain(told))
            self.assertTrue(all(type(row) is tuple for row in told))


if __name__ == "__main__":
    unittest.main()
