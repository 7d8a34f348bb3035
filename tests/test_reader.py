"""Point 33: texts read, and the refusal of what isn't so written."""

import unittest

import support
from commonhouse.errors import NoText
from commonhouse.forms import form_of, to_form
from commonhouse.papercheck import lets_paper
from commonhouse.papers import paper_of
from commonhouse.parts import part_of
from commonhouse.reader import read_given, read_house, read_paper, read_row, read_rows, read_way
from commonhouse.texts import show_given, show_paper, show_row, show_rows, show_way
from commonhouse.ways import none_way, stay

READERS = [read_row, read_rows, read_house, read_given, read_paper, read_way]
NO_TEXTS = [thing for thing in support.ODD_THINGS if not isinstance(thing, str)] + [["1"], ("1",), b"1", b"-", b"none", 1, (1,), ((1,),)]

# Words that write no number.
NO_NUMBERS = ["", "-", "--", "--1", "-0", "00", "01", "-01", "007", "+1", "+0", "1.", "1.0", "1e3", "1_000", "0x1", "a", "1a", "a1", "1-",
              "1-2", "~", "!", "1,", "1;", ";1", ";;", ":", "|", ">", "x", "none", "True", "None", "\n", "1\n", "\n1", "1\n2", "\t1", "(1)", "- 0",
              "0 -", "-  1", "\u0661", "\u00b2", "\uff11", "1\u00a0", "\u2212" + "1", "1\r", "0-"]


class Rows(unittest.TestCase):
    def test_written_and_read(self):
        for row in [(), (0,), (7,), (-7,), (1, 2, 3), (0, -1, 10), (0, 0), (10 ** 30 - 1, 1 - 10 ** 30), tuple(range(-20, 20))]:
            told = read_row(show_row(row))
            self.assertEqual(told, row)
            self.assertTrue(type(told) is tuple and support.is_plain(told))
        for rows in [(), ((),), ((), ()), ((1,),), ((1, 2), (3,)), ((1,), (), (-2, 0)), ((), (1,)), ((0,) * 9,) * 9]:
            told = read_rows(show_rows(rows))
            self.assertEqual(told, rows)
            self.assertTrue(type(told) is tuple and support.is_plain(told))

    def test_examples(self):
        self.assertEqual(read_row("4 6"), (4, 6))
        self.assertEqual(read_row("-"), ())
        self.assertEqual(read_row("-5 0 10"), (-5, 0, 10))
        self.assertEqual(read_rows("none"), ())
        self.assertEqual(read_rows("-"), ((),))
        self.assertEqual(read_rows("1 ; - ; 2 3"), ((1,), (), (2, 3)))

    def test_numbers_of_many_figures(self):
        source = support.chance(311)
        for many in [29, 30, 31, 63, 64, 65, 127, 128, 129, 1000, 3999, 4000]:
            for number in [10 ** (many - 1), 10 ** many - 1, source.randrange(10 ** (many - 1), 10 ** many)]:
                self.assertEqual(read_row(f"{number} -{number}"), (number, -number))
                self.assertEqual(read_rows(f"{number} ; -{number}"), ((number,), (-number,)))
        for many in [4301, 5000, 10000]:
            number = 7 * 10 ** many + 3
            self.assertEqual(read_row(show_row((number, -number))), (number, -number))

    def test_no_rows(self):
        for word in NO_NUMBERS:
            if word != "-":
                support.refused(self, NoText, read_row, word)
                if word != "none":
                    support.refused(self, NoText, read_rows, word)
            for text in [word + " 1", "1 " + word, "1 " + word + " 1", " ".join([word, word])]:
                support.refused(self, NoText, read_row, text)
                support.refused(self, NoText, read_rows, text)
                support.refused(self, NoText, read_rows, "1 ; " + text)
                support.refused(self, NoText, read_rows, text + " ; 1")

    def test_blanks(self):
        for text in ["", " ", "  ", " 1", "1 ", "1  2", " -", "- ", "1 2 ", "- -", "1 -", "- 1"]:
            support.refused(self, NoText, read_row, text)
            support.refused(self, NoText, read_rows, text)
            support.refused(self, NoText, read_rows, "1 ; " + text)
            support.refused(self, NoText, read_rows, text + " ; 1")

    def test_signs_between_rows(self):
        for text in ["1;2", "1 ;2", "1; 2", "1  ; 2", "1 ;  2", "1 ; ; 2", "1 ;", "; 1", " ; ", ";", "1 ; ", " ; 1", "1 ;  ; 2", "1 ; 2 ;",
                     "none ; 1", "1 ; none", "none ; none", " none", "none ", "None", "NONE", "1 : 2", "1 | 2", "1 > 2", "1\n;\n2", "1 ; 2\n"]:
            support.refused(self, NoText, read_rows, text)
            support.refused(self, NoText, read_row, text)
        support.refused(self, NoText, read_row, "none")
        support.refused(self, NoText, read_row, "1 ; 2")


class Houses(unittest.TestCase):
    def test_written_and_read(self):
        for house in [(), (1,), (1,) * 6, (4, 6), (1000000,) * 6, form_of(support.SIX), (10 ** 60,)] + support.GREAT:
            told = read_house(show_row(house))
            self.assertEqual(told, house)
            self.assertTrue(support.is_plain(told))

    def test_no_houses(self):
        for text in ["0", "-1", "4 0", "0 4", "4 -6", "1 1 1 1 1 1 1", "2 2 2 2 2 2 2 2", "none", "1 ; 1", "", " ", "4  6", " 4", "4 ", "04", "4 06",
                     "+4", "a", "4,6", "4\n", "\n4", "4\n6", "-0", "- -", "- 4"]:
            support.refused(self, NoText, read_house, text)


class GivenHouses(unittest.TestCase):
    def test_written_and_read(self):
        for given in [(0, ()), (0, ((),)), (0, ((),) * 8), (5, ()), (1, ((4,), (6,))), (2, ((2, 0), (-99, 99))), (5, ((99,) * 5,) * 8)]:
            told = read_given(show_given(given))
            self.assertEqual(told, given)
            self.assertTrue(support.is_plain(told))

    def test_no_given_houses(self):
        for text in ["6 : none", "-1 : none", "1 : " + " ; ".join(["1"] * 9), "0 : " + " ; ".join(["-"] * 9), "1 : 100", "1 : -100", "2 : 1 -100",
                     "1 : 1 2", "2 : 1", "2 : 1 2 ; 3", "1 : -", "0 : 0", "0 : 1", "1", "1 :", ": 1", "1 : ", " : 1", "1 : 1 : 1", "1: 1", "1 :1", "1:1",
                     "1  : 1", "1 :  1", " 1 : 1", "1 : 1 ", "01 : 1", "1 : 01", "+1 : 1", "-0 : none", "- : none", "1 1 : 1", "none : 1", "1 ; 1 : 1",
                     "1 : none ; 1", "1 : None", "1 | 1", "1 > 1", "", " ", "a : none", "1 : 1\n", "1\n : 1", "1 : 1 ;", "1 : ; 1", "1 : 1 ; ; 1",
                     "1 : 99999999999999999999999999999", "1 : 1.0"]:
            support.refused(self, NoText, read_given, text)


class Papers(unittest.TestCase):
    def test_written_and_read(self):
        for paper in [((), (), (), (), ()), ((2,), ((1,),), ((1,),), ((0,),), ((1,),)), ((), ((),), (), ((1,),), ()),
                      ((2, 4), ((1, 0), (0, 3)), ((1, -2), (0, 1)), ((), ()), ((5,), (6, 7)))]:
            told = read_paper(show_paper(paper))
            self.assertEqual(told, paper)
            self.assertTrue(type(told) is tuple and support.is_plain(told))

    def test_whose_first_part_is_no_house(self):
        for form in [(0,), (-3, 0), (1,) * 7, (5, 3), (-1,) * 20]:
            paper = (form, ((), (1, 2, 3)), (), ((9,),), ((),))
            self.assertEqual(read_paper(show_paper(paper)), paper)

    def test_told_papers(self):
        source = support.chance(312)
        for given in [(0, ()), (1, ((4,), (6,))), (2, ((2, 0), (0, 3))), (5, support.some_rows(source, 8, 5, -99, 99)),
                      (5, support.some_rows(source, 5, 5, -99, 99)), (4, support.some_rows(source, 8, 4, -99, 99))]:
            paper = paper_of(given)
            told = read_paper(show_paper(paper))
            self.assertEqual(told, paper)
            self.assertIs(lets_paper(given, told), True)

    def test_no_papers(self):
        for text in ["", "-", "- | none | none | none", "- | none | none | none | none | none", "- | none | none | none |", "| none | none | none | none",
                     " | none | none | none | none", "- | none | none | none | ", "-| none | none | none | none", "- |none | none | none | none",
                     "-|none|none|none|none", "-  | none | none | none | none", "- |  | none | none | none", "none | none | none | none | none",
                     "1 ; 2 | none | none | none | none", "- | none | none | none | a", "- | 01 | none | none | none", "- | none | -0 | none | none",
                     "- | none | none | 1  2 | none", "- | none | none | 1 ; | none", "- | none | none | none | none\n", "- : none : none : none : none",
                     "- | none | none | none | none ", " - | none | none | none | none", "- | none | none | none ; none | none", "+1 | none | none | none | none"]:
            support.refused(self, NoText, read_paper, text)


class Ways(unittest.TestCase):
    def test_written_and_read(self):
        source = support.chance(313)
        ways = [((), (), ()), ((), (4,), ()), ((4,), (), ((),)), ((2, 2), (), ((), ())), ((4, 6), (12,), ((3,), (2,))), stay((2, 3)), stay((1,) * 6),
                none_way((1,), (2, 2)), stay((1000000,) * 6)]
        ways += [support.some_way(source, one, other) for one in support.GREAT for other in support.GREAT]
        ways += [way for house in support.GREAT for way in to_form(house)[1:]]
        for way in ways:
            told = read_way(show_way(way))
            self.assertEqual(told, way)
            self.assertTrue(type(told) is tuple and support.is_plain(told))

    def test_no_ways(self):
        for text in ["4 > 8 : 1", "4 > 8 : 8", "4 > 8 : -2", "4 > 8 : 2 ; 2", "4 > 8 : none", "4 > 8 : 2 2", "4 > 8 : -", "4 > - : none", "- > 4 : 0",
                     "- > - : -", "4 4 > 8 : 2", "0 > 4 : 0", "4 > 0 : 0", "-4 > 4 : 0", "1 1 1 1 1 1 1 > - : - ; - ; - ; - ; - ; - ; -",
                     "- > 1 1 1 1 1 1 1 : none", "4 > 8", "4 : 8 : 2", "4 > 8 > 2", "4 > 8 : 2 : 2", "4 > 8 > 8 : 2", "8 : 2 > 4", "4>8:2", "4 > 8 :2",
                     "4 >8 : 2", "4> 8 : 2", "4  > 8 : 2", "4 >  8 : 2", "4 > 8  : 2", "4 > 8 :  2", " 4 > 8 : 2", "4 > 8 : 2 ", "4 > 8 : 2\n", "04 > 8 : 2",
                     "4 > 08 : 2", "4 > 8 : 02", "+4 > 8 : 2", "4 > 8 : -0", "", " ", " > ", " > : ", " >  : ", "4 > : 2", "none > 8 : none", "4 | 8 : 2",
                     "4 > 8 : a", "4 ; 4 > 8 : 2", "4 > 8 ; 8 : 2"]:
            support.refused(self, NoText, read_way, text)
        self.assertEqual(read_way("4 > 8 : 2"), ((4,), (8,), ((2,),)))


class WhateverThing(unittest.TestCase):
    def test_what_is_no_text(self):
        for reader in READERS:
            for thing in NO_TEXTS:
                support.refused(self, NoText, reader, thing)

    def test_texts_of_whatever_signs(self):
        source = support.chance(314)
        shows = {read_row: show_row, read_rows: show_rows, read_house: show_row, read_given: show_given, read_paper: show_paper, read_way: show_way}
        pieces = ["1", "0", "2", "-", " ", " ", " ; ", " : ", " | ", " > ", "none", "10", "\n", "a", "~", ";", ":", "-1", "00"]
        for reader, show in shows.items():
            for _ in range(3000):
                text = "".join(source.choice(pieces) for _ in range(source.randint(0, 7)))
                try:
                    told = reader(text)
                except NoText:
                    continue
                # What is read writes just this text.
                self.assertEqual(show(told), text)

    def test_long_texts(self):
        rows = tuple((k, -k) for k in range(400))
        self.assertEqual(read_rows(show_rows(rows)), rows)
        for reader in READERS:
            support.refused(self, NoText, reader, " " * 3000)
            support.refused(self, NoText, reader, "1 " * 1500)
            support.refused(self, NoText, reader, ";" * 3000)

    def test_parts_are_rows(self):
        part = part_of((4, 6), [(2, 3)])
        self.assertEqual(read_rows(show_rows(part)), part)


if __name__ == "__main__":
    unittest.main()
