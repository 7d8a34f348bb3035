"""Houses that are alike, and where others are apart [19]."""

from commonhouse.forms import form_of, to_form
from commonhouse.numbers import power
from commonhouse.primes import primes_of
from commonhouse.turns import nought_at
from commonhouse.waydeeds import then


def alike(one, other):
    """Two ways, from one to other and back, each of which takes the other one back; None where the
    houses have unlike forms.
    """
    if form_of(one) != form_of(other):
        return None
    form, there, back = to_form(one)
    same, other_there, other_back = to_form(other)
    return then(there, other_back), then(other_there, back)


def apart_at(one, other):
    """The least number from 1 on, so many times which not as many things of one as of other are nought;
    None where there is none.
    """
    # The counts multiply over unlike primes, so where they are apart at a number, they are so at a
    # power of one of its primes, too.
    found = []
    for limit in (*one, *other):
        for prime, often in primes_of(limit):
            found.extend([power(prime, many) for many in range(1, often + 1)])
    return min([n for n in found if nought_at(one, n) != nought_at(other, n)], default=None)
