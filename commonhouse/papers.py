"""The paper of a given house, with its form [14]."""

from commonhouse.diagonal import diagonal
from commonhouse.errors import Endless
from commonhouse.rows import across, mixed


def need_end(makers, numbers, right):
    """Refuse a given house that is endless: led by right, one of its makers is held by no rule."""
    for at, row in enumerate(across(makers, right)):
        if at >= len(numbers) or numbers[at] == 0:
            raise Endless(row)


def paper_of(given):
    """A paper of the given house that is let by."""
    makers, rules = given
    left, left_back, numbers, right, right_back = diagonal(makers, rules)
    need_end(makers, numbers, right)
    # Led by right, a word is nought just where number k divides it at each place k; so the numbers
    # are the rounds, and those that are 1 are left out.
    places = [at for at, number in enumerate(numbers) if number > 1]
    form = tuple([numbers[at] for at in places])
    there = tuple([tuple([row[at] % numbers[at] for at in places]) for row in right])
    back = tuple([right_back[at] for at in places])
    # Number k times row k of right_back is the rules mixed by row k of left.
    often = [[x // number for x, number in zip(row, numbers)] for row in right]
    whys = tuple([mixed(len(rules), row, left) for row in often])
    turns = tuple([left[at] for at in places])
    return form, there, back, whys, turns
