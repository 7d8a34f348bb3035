"""Papers of given houses: how they lead, and their checker [12, 13]."""

from commonhouse.errors import NoPaper
from commonhouse.houses import are_things, is_house, left_by, nought
from commonhouse.numbers import divides
from commonhouse.rows import is_rows, mixed, units


def led_there(paper, word):
    """The thing of the form to which a word is led."""
    form, there = paper[0], paper[1]
    return left_by(form, mixed(len(form), word, there))


def led_back(paper, a):
    """The word to which a thing of the form is led."""
    makers = len(paper[1])
    return mixed(makers, a, paper[2])


def are_rows(many, wide, thing):
    """Whether a thing, whatever it is, is a tuple of so many rows so wide."""
    return is_rows(wide, thing) and len(thing) == many


def has_shape(given, thing):
    """Whether a thing, whatever it is, has the shape of a paper of the given house."""
    if not isinstance(thing, tuple) or len(thing) != 5:
        return False
    makers, rules = given
    form, there, back, whys, turns = thing
    if not is_house(form) or not are_things(form, makers, there):
        return False
    if not are_rows(len(form), makers, back):
        return False
    return are_rows(makers, len(rules), whys) and are_rows(len(form), len(rules), turns)


def form_truths(form):
    """For each round whether it is above 1 and divides the next one, if there is one."""
    # The last round has no next one; it divides itself.
    following = (*form[1:], *form[-1:])
    return [limit > 1 and divides(limit, later) for limit, later in zip(form, following)]


def rule_truths(given, paper):
    """For each rule whether it is led there to nought."""
    return [led_there(paper, rule) == nought(paper[0]) for rule in given[1]]


def round_truths(paper):
    """For each word of back whether it is led there to the thing with 1 at its own place and 0 else."""
    form, back = paper[0], paper[2]
    return [led_there(paper, word) == unit for word, unit in zip(back, units(len(form)))]


def maker_truths(given, paper):
    """For each maker whether its whys show that it is the same thing as what it is led there and back to."""
    makers, rules = given
    truths = []
    for unit, a, numbers in zip(units(makers), paper[1], paper[3]):
        word = tuple([x - y for x, y in zip(unit, led_back(paper, a))])
        truths.append(word == mixed(makers, numbers, rules))
    return truths


def turn_truths(given, paper):
    """For each round whether its turns show that so many times its word of back is nought."""
    makers, rules = given
    truths = []
    for limit, word, numbers in zip(paper[0], paper[2], paper[4]):
        truths.append(tuple([limit * x for x in word]) == mixed(makers, numbers, rules))
    return truths


def need_all(word, truths):
    """Refuse a paper by this word and the number of the first that isn't so, if there is one."""
    for at, holds in enumerate(truths):
        if not holds:
            raise NoPaper(word, at)


def lets_paper(given, thing):
    """True where a thing, whatever it is, is a paper that is let by for the given house."""
    if not has_shape(given, thing):
        raise NoPaper("shape", 0)
    need_all("form", form_truths(thing[0]))
    need_all("rule", rule_truths(given, thing))
    need_all("round", round_truths(thing))
    need_all("maker", maker_truths(given, thing))
    need_all("turn", turn_truths(given, thing))
    return True
