"""Texts read: rows, houses, given houses, papers and ways [33]."""

from commonhouse.errors import NoText
from commonhouse.given import is_given
from commonhouse.houses import is_house
from commonhouse.texts import BEYOND, PIECE
from commonhouse.ways import is_way


def is_number(word):
    """Whether a word writes a number."""
    figures = word.removeprefix("-")
    if not figures.isascii() or not figures.isdigit():
        return False
    return word == "0" or not figures.startswith("0")


def need(holds):
    """Refuse a text of which something isn't so."""
    if not holds:
        raise NoText("the text isn't so written")


def read_number(word):
    """The number that a word writes."""
    need(is_number(word))
    figures = word.removeprefix("-")
    short = len(figures) % PIECE
    number = int("0" + figures[:short])
    for start in range(short, len(figures), PIECE):
        number = number * BEYOND + int(figures[start:start + PIECE])
    return -number if word.startswith("-") else number


def read_parts(text, between, many):
    """The so many parts of a text, whatever it is, that stand with a text between them."""
    need(isinstance(text, str))
    parts = text.split(between)
    need(len(parts) == many)
    return parts


def read_row(text):
    """A row of numbers."""
    need(isinstance(text, str))
    if text == "-":
        return ()
    return tuple([read_number(word) for word in text.split(" ")])


def read_rows(text):
    """Rows of whatever lengths."""
    need(isinstance(text, str))
    if text == "none":
        return ()
    return tuple([read_row(row) for row in text.split(" ; ")])


def read_house(text):
    """A house."""
    house = read_row(text)
    need(is_house(house))
    return house


def read_given(text):
    """A given house."""
    many, rules = read_parts(text, " : ", 2)
    given = (read_number(many), read_rows(rules))
    need(is_given(given))
    return given


def read_paper(text):
    """A paper: its five parts, whatever rows."""
    form, *others = read_parts(text, " | ", 5)
    return (read_row(form), *[read_rows(part) for part in others])


def read_way(text):
    """A way."""
    one, behind = read_parts(text, " > ", 2)
    other, images = read_parts(behind, " : ", 2)
    way = (read_row(one), read_row(other), read_rows(images))
    need(is_way(way))
    return way
