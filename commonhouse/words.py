"""Words of given houses that are nought or not [11]."""

from commonhouse.diagonal import diagonal
from commonhouse.numbers import divides
from commonhouse.rows import across, mixed, summed


def nought_or_not(given, word):
    """("yes", numbers): the rules mixed by these are the word; or ("no", n, row): n divides what each
    rule and row come to, but not what the word and row come to.
    """
    many, rules = given
    left, left_back, numbers, right, right_back = diagonal(many, rules)
    # Led by right the rules reach just the words that have a multiple of number k at each place k, and
    # 0 where there is no number any more.
    taken = [0 for rule in rules]
    for at, row in enumerate(across(many, right)):
        n = numbers[at] if at < len(numbers) else 0
        worth = summed(word, row)
        if not divides(n, worth):
            return ("no", n, row)
        if n > 0:
            taken[at] = worth // n
    return ("yes", mixed(len(rules), taken, left))
