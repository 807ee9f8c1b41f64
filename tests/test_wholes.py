"""Stage 1: points 5 and 6, with 2 and 3."""

import unittest
from math import prod

from rootwheel.errors import NoOrder
from rootwheel.wholes import divisors, order, parted, sign, units
from tests.helpers import check_told, refusal

MILLION = 10 ** 6


def plain_divisors(n):
    return [d for d in range(1, n + 1) if n % d == 0]


def plain_order(a, n):
    """None where there is no order: the powers of a by n recur within n steps."""
    for k in range(1, n + 1):
        if (a ** k - 1) % n == 0:
            return k
    return None


class Divisors(unittest.TestCase):
    def test_told_ones(self):
        for n, told in (
            (1, [1]), (2, [1, 2]), (3, [1, 3]), (4, [1, 2, 4]), (6, [1, 2, 3, 6]),
            (9, [1, 3, 9]), (12, [1, 2, 3, 4, 6, 12]), (36, [1, 2, 3, 4, 6, 9, 12, 18, 36]),
            (97, [1, 97]), (210, [1, 2, 3, 5, 6, 7, 10, 14, 15, 21, 30, 35, 42, 70, 105, 210]),
        ):
            self.assertEqual(check_told(self, divisors, n), told)

    def test_all_small_ones(self):
        for n in range(1, 1200):
            self.assertEqual(divisors(n), plain_divisors(n), n)

    def test_up_to_a_million(self):
        for n in (MILLION, 999999, 999983, 998001, 997 * 991, 720720, 510510, 2 ** 19, 3 ** 12, 997 ** 2):
            self.assertEqual(check_told(self, divisors, n), plain_divisors(n), n)
        self.assertEqual(divisors(999983), [1, 999983])
        self.assertEqual(divisors(997 ** 2), [1, 997, 994009])

    def test_somewhat_beyond(self):
        self.assertEqual(divisors(1000003), [1, 1000003])


class Parted(unittest.TestCase):
    def test_told_ones(self):
        for n, told in (
            (1, []), (2, [(2, 1)]), (3, [(3, 1)]), (4, [(2, 2)]), (8, [(2, 3)]), (9, [(3, 2)]),
            (12, [(2, 2), (3, 1)]), (18, [(2, 1), (3, 2)]), (97, [(97, 1)]), (49, [(7, 2)]),
            (210, [(2, 1), (3, 1), (5, 1), (7, 1)]), (360, [(2, 3), (3, 2), (5, 1)]),
            (999983, [(999983, 1)]), (2 ** 19, [(2, 19)]), (3 ** 12, [(3, 12)]),
            (MILLION, [(2, 6), (5, 6)]), (997 ** 2, [(997, 2)]), (997 * 991, [(991, 1), (997, 1)]),
            (510510, [(2, 1), (3, 1), (5, 1), (7, 1), (11, 1), (13, 1), (17, 1)]),
            (2 * 499979, [(2, 1), (499979, 1)]), (999999, [(3, 3), (7, 1), (11, 1), (13, 1), (37, 1)]),
        ):
            self.assertEqual(check_told(self, parted, n), told)

    def test_all_small_ones(self):
        for n in range(1, 1200):
            rows = parted(n)
            self.assertEqual(prod(p ** times for p, times in rows), n)
            primes = [p for p, _ in rows]
            self.assertEqual(primes, [p for p in plain_divisors(n) if len(plain_divisors(p)) == 2])

    def test_rows_are_tuples_in_a_list(self):
        rows = parted(360)
        self.assertIs(type(rows), list)
        self.assertEqual([type(row) for row in rows], [tuple] * 3)


class Units(unittest.TestCase):
    def test_told_ones(self):
        for n, told in (
            (1, [0]), (2, [1]), (3, [1, 2]), (4, [1, 3]), (6, [1, 5]), (7, [1, 2, 3, 4, 5, 6]),
            (8, [1, 3, 5, 7]), (9, [1, 2, 4, 5, 7, 8]), (12, [1, 5, 7, 11]),
            (15, [1, 2, 4, 7, 8, 11, 13, 14]), (30, [1, 7, 11, 13, 17, 19, 23, 29]),
        ):
            self.assertEqual(check_told(self, units, n), told)

    def test_all_up_to_the_bound(self):
        for n in range(1, 211):
            parts = plain_divisors(n)[1:]
            told = check_told(self, units, n)
            self.assertEqual(told, [k for k in range(n) if all(k % d != 0 for d in parts)], n)

    def test_many_of_the_bound(self):
        self.assertEqual(len(units(210)), 48)
        self.assertEqual(units(199), list(range(1, 199)))


class Sign(unittest.TestCase):
    def test_told_ones(self):
        for n, told in (
            (1, 1), (2, -1), (3, -1), (4, 0), (5, -1), (6, 1), (8, 0), (9, 0), (12, 0), (18, 0),
            (30, -1), (35, 1), (36, 0), (60, 0), (180, 0), (197, -1), (199, -1), (206, 1), (210, 1),
        ):
            self.assertEqual(check_told(self, sign, n), told, n)

    def test_all_up_to_the_bound(self):
        for n in range(1, 211):
            primes = [p for p in plain_divisors(n) if len(plain_divisors(p)) == 2]
            if any(n % (p * p) == 0 for p in primes):
                self.assertEqual(sign(n), 0, n)
            else:
                self.assertEqual(sign(n), (-1) ** len(primes), n)


class Order(unittest.TestCase):
    def test_told_ones(self):
        for a, n, told in (
            (1, 2, 1), (2, 3, 2), (2, 5, 4), (2, 7, 3), (3, 7, 6), (10, 7, 6), (3, 8, 2), (5, 12, 2),
            (7, 12, 2), (2, 15, 4), (2, 9, 6), (8, 7, 1), (2, 997, 332), (7, 997, 996), (10, 999, 3),
            (10, 983, 982), (5, 998, 249),
        ):
            self.assertEqual(check_told(self, order, a, n), told, (a, n))
            self.assertEqual(plain_order(a, n), told)

    def test_by_one_it_is_one(self):
        for a in (0, 1, -1, 2, 12, -30, 10 ** 60 - 1, 1 - 10 ** 60):
            self.assertEqual(check_told(self, order, a, 1), 1)

    def test_by_small_ones(self):
        for n in range(1, 61):
            for a in range(-n - 3, n + 4):
                told = plain_order(a, n)
                if told is None:
                    self.assertIs(refusal(order, a, n), NoOrder, (a, n))
                else:
                    self.assertEqual(order(a, n), told, (a, n))

    def test_of_nought(self):
        for n in list(range(2, 40)) + [997, 998, 999]:
            self.assertIs(refusal(order, 0, n), NoOrder)

    def test_below_nought(self):
        for a, n, told in ((-1, 2, 1), (-1, 3, 2), (-1, 999, 2), (-2, 3, 1), (-2, 7, 6), (-3, 7, 3), (-8, 9, 1)):
            self.assertEqual(check_told(self, order, a, n), told, (a, n))
        for a, n in ((-2, 4), (-3, 999), (-5, 5), (-6, 9)):
            self.assertIs(refusal(order, a, n), NoOrder)

    def test_of_great_numbers(self):
        for n in (2, 7, 16, 97, 500, 720, 991, 997, 998, 999):
            for great in (10 ** 59 + 7, 10 ** 60 - 1, 7 ** 70, 2 ** 199, 6 ** 70):
                for a in (great, -great):
                    told = plain_order(a % n, n)
                    if told is None:
                        self.assertIs(refusal(order, a, n), NoOrder, (a, n))
                    else:
                        self.assertEqual(order(a, n), told, (a, n))

    def test_refused_just_where_a_prime_is_common(self):
        for a, n in ((2, 2), (2, 4), (4, 2), (6, 9), (15, 10), (999, 999), (37, 999), (998, 4), (10 ** 59, 5)):
            self.assertIs(refusal(order, a, n), NoOrder, (a, n))
        for a, n in ((9, 2), (25, 9), (35, 999), (1, 999), (10 ** 59, 3), (10 ** 59 + 1, 5)):
            self.assertIsNone(refusal(order, a, n), (a, n))


if __name__ == "__main__":
    unittest.main()
