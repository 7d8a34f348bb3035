"""The names that a table of sums gives its numbers: things of a form [32]."""

from commonhouse.houses import is_house, is_thing, plus, size
from commonhouse.papercheck import form_truths, led_there
from commonhouse.papers import paper_of
from commonhouse.tables import has_table_shape, lets_table, nought_in


def with_maker(table, words, a):
    """(words, rule): the words of all numbers that those with words come to by a as one more maker; and the
    rule that tells how often a is taken till it comes to a number that had a word before.
    """
    found = {b: (*words[b], 0) for b in words}
    many, number = 1, a
    while number not in words:
        for b in words:
            found[table[b][number]] = (*words[b], many)
        many, number = many + 1, table[number][a]
    return found, (*[-x for x in words[number]], many)


def told_by_makers(table):
    """(words, rules): some numbers are taken as makers, so that each number has its word, and the rules
    are those of the given house that the table is.
    """
    words = {nought_in(table): ()}
    rules = []
    for a in range(len(table)):
        if a not in words:
            words, rule = with_maker(table, words, a)
            rules.append(rule)
    # A rule was told when the later makers weren't there yet.
    makers = len(rules)
    return words, tuple([(*rule, *[0 for later in range(makers - len(rule))]) for rule in rules])


def names_of(table):
    """(form, names): a thing of the form for each number, so that the name of a sum is the sum of the names."""
    lets_table(table)
    words, rules = told_by_makers(table)
    paper = paper_of((len(rules), rules))
    return paper[0], [led_there(paper, words[number]) for number in range(len(table))]


def are_all_things(form, many, thing):
    """Whether a thing, whatever it is, is a list of all things of the form, so many, each just once."""
    if not isinstance(thing, list) or len(thing) != many or size(form) != many:
        return False
    return all(is_thing(form, name) for name in thing) and len(set(thing)) == many


def lets_names(table, thing):
    """Whether a thing, whatever it is, is such a tuple (form, names) for the table."""
    # Names that are so show that the table is let by, so of the table no more than its shape is asked.
    if not has_table_shape(table) or not isinstance(thing, tuple) or len(thing) != 2:
        return False
    form, names = thing
    if not is_house(form) or not all(form_truths(form)) or not are_all_things(form, len(table), names):
        return False
    for a, row in enumerate(table):
        if not all(names[total] == plus(form, names[a], names[b]) for b, total in enumerate(row)):
            return False
    return True
