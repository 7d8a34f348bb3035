"""The refusals of Commonhouse. The numbers in brackets are the points of the document."""


class HouseError(ValueError):
    """Any refusal."""


class NoThing(HouseError):
    """What was handed in is no thing of the house [5]."""


class TooGreat(HouseError):
    """There are more things, ways, parts or turnings than are told one by one [5]."""


class Endless(HouseError):
    """The given house has no end; row shows it [14]."""

    def __init__(self, row):
        HouseError.__init__(self, "the given house is endless")
        self.row = row


class NoPaper(HouseError):
    """The paper isn't let by; word and number tell what isn't so [13]."""

    def __init__(self, word, number):
        HouseError.__init__(self, "this is no paper of the given house")
        self.word = word
        self.number = number


class NoFit(HouseError):
    """The houses of two ways don't fit [16]."""


class NoTable(HouseError):
    """The table isn't let by; word and numbers tell what isn't so [31]."""

    def __init__(self, word, numbers):
        HouseError.__init__(self, "this is no table of sums")
        self.word = word
        self.numbers = numbers


class NoText(HouseError):
    """The text isn't so written as the document tells [33]."""


class NoName(HouseError):
    """No house stands by the name [34]."""


class NoRow(HouseError):
    """The desk knows no such row [34]."""
