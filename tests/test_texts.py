"""Point 33: rows, given houses, papers and ways written as texts."""

import unittest

import support
from commonhouse.papers import paper_of
from commonhouse.texts import show_given, show_paper, show_row, show_rows, show_way
from commonhouse.ways import none_way, stay


class Texts(unittest.TestCase):
    def test_rows_of_numbers(self):
        for row, text in [((), "-"), ((0,), "0"), ((7,), "7"), ((-7,), "-7"), ((1, 2, 3), "1 2 3"), ((0, -1, 10), "0 -1 10"),
                          ((0, 0), "0 0"), ((10 ** 30 - 1, 1 - 10 ** 30), "9" * 30 + " -" + "9" * 30), (tuple(range(20)), " ".join(map(str, range(20))))]:
            told = show_row(row)
            self.assertIs(type(told), str)
            self.assertEqual(told, text)

    def test_rows(self):
        for rows, text in [((), "none"), (((),), "-"), (((), ()), "- ; -"), (((1,),), "1"), (((1, 2), (3,)), "1 2 ; 3"),
                           (((1,), (), (-2, 0)), "1 ; - ; -2 0"), (((1, 0), (0, 1)), "1 0 ; 0 1"), (((),) * 4, "- ; - ; - ; -")]:
            told = show_rows(rows)
            self.assertIs(type(told), str)
            self.assertEqual(told, text)

    def test_given_houses(self):
        for given, text in [((0, ()), "0 : none"), ((0, ((),)), "0 : -"), ((0, ((), ())), "0 : - ; -"), ((5, ()), "5 : none"),
                            ((1, ((4,), (6,))), "1 : 4 ; 6"), ((2, ((2, 0), (-99, 99))), "2 : 2 0 ; -99 99")]:
            self.assertEqual(show_given(given), text)

    def test_papers(self):
        for paper, text in [(((), (), (), (), ()), "- | none | none | none | none"),
                            (((2,), ((1,),), ((1,),), ((0,),), ((1,),)), "2 | 1 | 1 | 0 | 1"),
                            (((), ((),), (), ((1,),), ()), "- | - | none | 1 | none"),
                            (((2, 4), ((1, 0), (0, 3)), ((1, -2), (0, 1)), ((), ()), ((5,), (6, 7))),
                             "2 4 | 1 0 ; 0 3 | 1 -2 ; 0 1 | - ; - | 5 ; 6 7"),
                            (((-3, 0), ((), (1, 2, 3)), (), ((9,),), ((),)), "-3 0 | - ; 1 2 3 | none | 9 | -")]:
            self.assertEqual(show_paper(paper), text)
        paper = paper_of((2, ((2, 0), (0, 3))))
        self.assertEqual(show_paper(paper), " | ".join([show_row(paper[0])] + [show_rows(part) for part in paper[1:]]))

    def test_ways(self):
        for way, text in [(((), (), ()), "- > - : none"), (((), (4,), ()), "- > 4 : none"), (((4,), (), ((),)), "4 > - : -"),
                          (((2, 2), (), ((), ())), "2 2 > - : - ; -"), (((4, 6), (12,), ((3,), (2,))), "4 6 > 12 : 3 ; 2"),
                          (stay((2, 3)), "2 3 > 2 3 : 1 0 ; 0 1"), (none_way((1,), (2, 2)), "1 > 2 2 : 0 0")]:
            self.assertEqual(show_way(way), text)

    def test_numbers_of_many_figures(self):
        source = support.chance(301)
        for many in [1, 2, 29, 30, 31, 63, 64, 65, 127, 128, 129, 1000, 3999, 4000]:
            for number in [10 ** (many - 1), 10 ** many - 1, source.randrange(10 ** (many - 1), 10 ** many), 7 * 10 ** (many - 1)]:
                self.assertEqual(show_row((number,)), str(number))
                self.assertEqual(show_row((-number, number)), f"-{number} {number}")
        # Python itself writes none of these.
        for many in [4301, 5000, 10000]:
            self.assertEqual(show_row((10 ** many, -7 * 10 ** many)), "1" + "0" * many + " -7" + "0" * many)

    def test_what_is_handed_in_stays_as_it_was(self):
        paper = ((2,), ((1,),), ((1,),), ((0,),), ((1,),))
        way = ((4, 6), (12,), ((3,), (2,)))
        before = repr((paper, way))
        show_paper(paper)
        show_way(way)
        self.assertEqual(repr((paper, way)), before)


if __name__ == "__main__":
    unittest.main()
