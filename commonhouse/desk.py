"""A desk that keeps houses by names and answers rows [34]."""

from commonhouse.allparts import parts
from commonhouse.allways import many_ways
from commonhouse.apart import apart_at
from commonhouse.errors import NoName, NoRow
from commonhouse.forms import form_of
from commonhouse.houses import size, things
from commonhouse.kinds import kinds
from commonhouse.papers import paper_of
from commonhouse.reader import read_given, read_house, read_row
from commonhouse.texts import show_number, show_row, show_rows
from commonhouse.turnings import many_turnings
from commonhouse.turns import turn

LONGEST_NAME = 8


def tell_house(house):
    """The house itself."""
    return show_row(house)


def tell_form(house):
    """Its form."""
    return show_row(form_of(house))


def tell_size(house):
    """How many things it has."""
    return show_number(size(house))


def tell_things(house):
    """All its things."""
    return show_rows(things(house))


def tell_parts(house):
    """How many parts it has."""
    return show_number(len(parts(house)))


def tell_kinds(house):
    """The kinds of its parts, each with how many there are."""
    return " ; ".join([show_row(kind) + " x " + show_number(many) for kind, many in kinds(house)])


def tell_turnings(house):
    """How many turnings it has."""
    return show_number(many_turnings(house))


def tell_alike(one, other):
    """Whether two houses are alike, and if not, the number that shows it."""
    # The forms are told without any primes, so great houses that are alike are soon known to be.
    if form_of(one) == form_of(other):
        return "yes"
    return "no " + show_number(apart_at(one, other))


def tell_ways(one, other):
    """How many ways go from one to other."""
    return show_number(many_ways(one, other))


# What is asked of one house, and of two.
OF_ONE = {
    "show": tell_house, "form": tell_form, "size": tell_size, "things": tell_things, "parts": tell_parts,
    "kinds": tell_kinds, "turnings": tell_turnings,
}
OF_TWO = {"alike": tell_alike, "ways": tell_ways}
# Rows with more behind the name: those that make a house stand by it, and all.
MAKING = ("house", "given")
WITH_MORE = ("house", "given", "turn")


def is_name(word):
    """Whether a word is a name."""
    return 1 <= len(word) <= LONGEST_NAME and all("a" <= sign <= "z" for sign in word)


def is_known(words):
    """Whether words are a row of the desk by the first one and how many there are."""
    first = words[0]
    if first in WITH_MORE:
        return len(words) >= 3
    if first in OF_TWO:
        return len(words) == 3
    return (first in OF_ONE or first == "drop") and len(words) == 2


def names_due(words):
    """The words of a known row that must be names."""
    return words[1:3] if words[0] in OF_TWO else words[1:2]


class Desk:
    """Houses by names, at first none."""

    def __init__(self):
        self.kept = {}

    def say(self, row):
        """The answer to a row."""
        if not isinstance(row, str):
            raise NoRow("this is no text")
        words = row.split(" ")
        if not is_known(words):
            raise NoRow("the desk knows no such row")
        names = names_due(words)
        if not all(is_name(word) for word in names):
            raise NoRow("there is no name where one is due")
        more = " ".join(words[2:])
        if words[0] in MAKING:
            return self.put(words[0], names[0], more)
        return self.answer(words[0], names, more)

    def put(self, first, name, more):
        """Make the house that is told stand by the name."""
        # All that may be refused comes ahead of what is changed.
        house = read_house(more) if first == "house" else paper_of(read_given(more))[0]
        self.kept[name] = house
        return "ok"

    def answer(self, first, names, more):
        """The answer to a row of names by which houses must stand."""
        for name in names:
            if name not in self.kept:
                raise NoName("no house stands by the name")
        houses = [self.kept[name] for name in names]
        if first == "drop":
            del self.kept[names[0]]
            return "ok"
        if first == "turn":
            return show_number(turn(houses[0], read_row(more)))
        if first in OF_TWO:
            tell_two = OF_TWO[first]
            return tell_two(houses[0], houses[1])
        tell_one = OF_ONE[first]
        return tell_one(houses[0])
