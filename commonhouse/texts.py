"""Rows, given houses, papers and ways written as texts [33]."""

# Python writes and reads no numbers of some thousand figures at once, so they are taken piece by piece:
# so many figures, and the least number that has more.
PIECE = 64
BEYOND = 10 ** 64


def show_number(number):
    """A number by its figures."""
    sign = "-" if number < 0 else ""
    rest = abs(number)
    figures = ""
    while rest >= BEYOND:
        rest, piece = divmod(rest, BEYOND)
        figures = str(piece).zfill(PIECE) + figures
    return sign + str(rest) + figures


def show_row(row):
    """A row of numbers, a house, a thing or a word."""
    if len(row) == 0:
        return "-"
    return " ".join([show_number(number) for number in row])


def show_rows(rows):
    """Rows of whatever lengths, or a part."""
    if len(rows) == 0:
        return "none"
    return " ; ".join([show_row(row) for row in rows])


def show_given(given):
    """A given house."""
    many, rules = given
    return show_number(many) + " : " + show_rows(rules)


def show_paper(paper):
    """A paper, of whatever form and rows."""
    form, there, back, whys, turns = paper
    return " | ".join([show_row(form), *[show_rows(rows) for rows in (there, back, whys, turns)]])


def show_way(way):
    """A way."""
    one, other, images = way
    return show_row(one) + " > " + show_row(other) + " : " + show_rows(images)
