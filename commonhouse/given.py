"""Given houses, told by makers and rules [11]."""

from commonhouse.numbers import is_whole
from commonhouse.rows import is_rows

MOST_MAKERS = 5
MOST_RULES = 8
GREATEST = 99


def is_given(thing):
    """Whether a thing, whatever it is, is a given house."""
    if not isinstance(thing, tuple) or len(thing) != 2:
        return False
    many, rules = thing
    if not is_whole(many) or many < 0 or many > MOST_MAKERS:
        return False
    if not is_rows(many, rules) or len(rules) > MOST_RULES:
        return False
    return all(-GREATEST <= number <= GREATEST for rule in rules for number in rule)
