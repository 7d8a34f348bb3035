"""Point 20: houses by primes."""

import itertools
import unittest

import support
from commonhouse.byprimes import by_primes, from_primes
from commonhouse.forms import form_of

TABLE = [
    ((), []), ((1,), []), ((1,) * 6, []), ((2,), [(2, (1,))]), ((4, 6), [(2, (1, 2)), (3, (1,))]),
    ((6, 4), [(2, (1, 2)), (3, (1,))]), ((12, 1, 18), [(2, (1, 2)), (3, (1, 2))]), ((7, 7), [(7, (1, 1))]),
    ((8, 2, 4), [(2, (1, 2, 3))]), ((1000000,), [(2, (6,)), (5, (6,))]), ((999983, 10), [(2, (1,)), (5, (1,)), (999983, (1,))]),
    ((524288,) * 6, [(2, (19,) * 6)]), ((1, 1, 1, 1, 1, 720720), [(2, (4,)), (3, (2,)), (5, (1,)), (7, (1,)), (11, (1,)), (13, (1,))]),
]


class ByPrimes(unittest.TestCase):
    def test_examples(self):
        for house, told in TABLE:
            self.assertEqual(by_primes(house), told, house)

    def test_small_houses_all(self):
        for house in itertools.product((1, 2, 3, 4, 6, 8, 12), repeat=3):
            told = by_primes(house)
            self.assertIs(type(told), list)
            self.assertTrue(support.is_plain(told))
            self.assertEqual(told, sorted(told))
            for prime, powers in told:
                self.assertEqual(powers, tuple(sorted(powers)))
                often = [max(k for k in range(9) if limit % prime ** k == 0) for limit in house]
                self.assertEqual(list(powers), sorted(k for k in often if k > 0))
            self.assertEqual([prime for prime, _ in told], [p for p in (2, 3) if any(limit % p == 0 for limit in house)])

    def test_a_told_list_is_the_askers_own(self):
        told = by_primes((4, 6))
        told.clear()
        self.assertEqual(by_primes((4, 6)), [(2, (1, 2)), (3, (1,))])


class FromPrimes(unittest.TestCase):
    def test_examples(self):
        self.assertEqual(from_primes([]), ())
        self.assertEqual(from_primes([(2, (1, 2)), (3, (1,))]), (2, 12))
        self.assertEqual(from_primes([(2, (1,)), (3, (1, 1, 2))]), (3, 3, 18))
        self.assertEqual(from_primes([(2, (19,) * 6)]), (524288,) * 6)
        self.assertEqual(from_primes([(5, (1,)), (999983, (1, 1))]), (999983, 5 * 999983))

    def test_the_form_of_the_house_told(self):
        source = support.chance(111)
        houses = [house for house, _ in TABLE] + list(itertools.product((1, 2, 3, 4, 6, 12), repeat=3))
        houses += [tuple(source.randint(1, 1000000) for _ in range(many)) for many in range(7) for _ in range(5)]
        houses += [(1000000, 720720, 999983, 524288, 531441, 999999)]
        with support.good_time():
            for house in houses:
                told = by_primes(house)
                before = repr(told)
                form = from_primes(told)
                self.assertEqual(repr(told), before)
                self.assertTrue(support.is_plain(form))
                self.assertEqual(form, form_of(house), house)
                if all(limit <= 1000000 for limit in form):
                    self.assertEqual(by_primes(form), told)


if __name__ == "__main__":
    unittest.main()
