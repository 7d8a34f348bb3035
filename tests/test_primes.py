"""Point 4: the primes of a number."""

import unittest

import support
from commonhouse.primes import primes_of


def is_prime(n):
    return n > 1 and all(n % k for k in range(2, n) if k * k <= n)


class Primes(unittest.TestCase):
    def check(self, n):
        told = primes_of(n)
        self.assertIs(type(told), list)
        self.assertTrue(support.is_plain(told))
        self.assertTrue(all(type(pair) is tuple and len(pair) == 2 for pair in told), n)
        primes = [prime for prime, often in told]
        self.assertEqual(primes, sorted(set(primes)), n)
        product = 1
        for prime, often in told:
            self.assertGreaterEqual(often, 1, n)
            product *= prime ** often
        self.assertEqual(product, n)
        return primes

    def test_all_small_numbers(self):
        for n in range(1, 1500):
            for prime in self.check(n):
                self.assertTrue(is_prime(prime), n)

    def test_edges(self):
        self.assertEqual(primes_of(1), [])
        self.assertEqual(primes_of(2), [(2, 1)])
        self.assertEqual(primes_of(1000000), [(2, 6), (5, 6)])
        self.assertEqual(primes_of(999983), [(999983, 1)])
        self.assertEqual(primes_of(994009), [(997, 2)])
        self.assertEqual(primes_of(524288), [(2, 19)])
        self.assertEqual(primes_of(720720), [(2, 4), (3, 2), (5, 1), (7, 1), (11, 1), (13, 1)])

    def test_great_numbers_of_the_range(self):
        for n in range(999900, 1000001):
            self.check(n)

    def test_somewhat_beyond_the_range_nothing_is_refused(self):
        self.assertEqual(primes_of(1000003), [(1000003, 1)])
        self.assertEqual(primes_of(1000004), [(2, 2), (53, 2), (89, 1)])

    def test_a_told_list_is_the_askers_own(self):
        told = primes_of(12)
        told.append("more")
        told[0] = None
        self.assertEqual(primes_of(12), [(2, 2), (3, 1)])
        primes_of(1).append(1)
        self.assertEqual(primes_of(1), [])


if __name__ == "__main__":
    unittest.main()
