"""Stage 7: points 21 and 22, with 2, 3 and 4."""

import unittest
from copy import deepcopy
from itertools import product as every

from rootwheel.byprimes import is_parted_by_prime, parted_by_prime
from rootwheel.errors import NoPrime
from tests.helpers import (
    ODD_ONES, bent_ones, check_judged, check_told, plain_product, plain_rest, plain_root_poly, plain_units, refusal,
)

PRIMES = (2, 3, 5, 7, 11, 13, 17, 19, 23, 29, 31)
NO_PRIMES = (0, 1, -1, -2, -3, -31, 4, 6, 8, 9, 15, 21, 25, 27, 30, 49, 341)
ASKED = [(n, p) for n in range(1, 32) for p in PRIMES]
LOOKED_AT = (
    (1, 2), (1, 31), (2, 2), (2, 3), (4, 2), (3, 7), (7, 2), (5, 19), (8, 3), (9, 3), (12, 2), (12, 3), (15, 2),
    (21, 2),
)


def parts_of(n, p):
    """n as m times a power of p, p not dividing m: (m, the power)."""
    m = n
    while m % p == 0:
        m //= p
    return m, n // m


def plain_order(p, m):
    k, power = 1, p % m
    while power != 1 % m:
        k, power = k + 1, power * p % m
    return k


def product_by(rows, p):
    """The product of all, each times often, by p."""
    whole = [1]
    for f, times in rows:
        for _ in range(times):
            whole = [number % p for number in plain_product(whole, f)]
    return whole


def is_product(f, p):
    """Whether f by p is a product of two with at least two numbers each, by trying all of them."""
    for many in range(1, (len(f) - 1) // 2 + 1):
        for low in every(range(p), repeat=many):
            if not any(number % p for number in plain_rest(f, list(low) + [1])):
                return True
    return False


class Parted(unittest.TestCase):
    def check(self, n, p):
        told = parted_by_prime(n, p)
        m, power = parts_of(n, p)
        size = plain_order(p, m)
        parts = [f for f, _ in told]
        self.assertEqual(parts, sorted(parts), (n, p))
        self.assertEqual(len({tuple(f) for f in parts}), len(parts))
        self.assertEqual({times for _, times in told}, {len(plain_units(power))})
        for row in told:
            self.assertIs(type(row), tuple)
            f, _ = row
            self.assertIs(type(f), list)
            self.assertEqual((len(f), f[-1]), (size + 1, 1))
            self.assertEqual([number for number in f if number not in range(p)], [])
        self.assertEqual(len(parts) * size, len(plain_units(m)))
        self.assertEqual(product_by(told, p), [number % p for number in plain_root_poly(n)])
        return told

    def test_told_ones(self):
        for n, p, told in (
            (1, 2, [([1, 1], 1)]), (1, 3, [([2, 1], 1)]), (1, 31, [([30, 1], 1)]), (2, 2, [([1, 1], 1)]),
            (2, 3, [([1, 1], 1)]), (4, 2, [([1, 1], 2)]), (8, 2, [([1, 1], 4)]), (3, 3, [([2, 1], 2)]),
            (9, 3, [([2, 1], 6)]), (31, 31, [([30, 1], 30)]), (3, 2, [([1, 1, 1], 1)]),
            (7, 2, [([1, 0, 1, 1], 1), ([1, 1, 0, 1], 1)]), (12, 2, [([1, 1, 1], 2)]), (6, 2, [([1, 1, 1], 1)]),
            (6, 3, [([1, 1], 2)]), (12, 3, [([1, 0, 1], 2)]), (8, 3, [([2, 1, 1], 1), ([2, 2, 1], 1)]),
            (3, 7, [([3, 1], 1), ([5, 1], 1)]), (4, 5, [([2, 1], 1), ([3, 1], 1)]), (5, 3, [([1, 1, 1, 1, 1], 1)]),
            (15, 2, [([1, 0, 0, 1, 1], 1), ([1, 1, 0, 0, 1], 1)]), (20, 5, [([2, 1], 4), ([3, 1], 4)]),
        ):
            self.assertEqual(check_told(self, parted_by_prime, n, p), told)

    def test_all_up_to_the_bounds(self):
        for n, p in ASKED:
            self.check(n, p)

    def test_none_is_a_product(self):
        for n, p in ASKED:
            for f, _ in parted_by_prime(n, p):
                if p ** ((len(f) - 1) // 2) <= 400:
                    self.assertFalse(is_product(f, p), (n, p, f))

    def test_primes_that_leave_one(self):
        for n, p in ((2, 31), (3, 31), (5, 31), (6, 31), (10, 31), (15, 31), (30, 31), (28, 29), (22, 23), (16, 17)):
            told = self.check(n, p)
            # All roots of n by p: those whose n-th power leaves 1, and no lesser one.
            roots = [a for a in range(p) if plain_order_or_none(a, p) == n]
            self.assertEqual(told, sorted([([-a % p, 1], 1) for a in roots]))

    def test_somewhat_beyond(self):
        for n, p in ((60, 2), (45, 3), (61, 37), (7, 97)):
            self.check(n, p)

    def test_the_asker_may_change_it(self):
        for n, p in ASKED[::7]:
            check_told(self, parted_by_prime, n, p)


def plain_order_or_none(a, p):
    powers = [pow(a, k, p) for k in range(1, p)]
    return powers.index(1) + 1 if 1 in powers else None


class Judge(unittest.TestCase):
    def check_not(self, n, p, thing):
        check_judged(self, False, is_parted_by_prime, n, p, thing)

    def test_the_list_itself(self):
        for n, p in ASKED:
            check_judged(self, True, is_parted_by_prime, n, p, parted_by_prime(n, p))

    def test_one_list_in_several_places(self):
        one = [1, 1]
        self.assertIs(is_parted_by_prime(2, 3, [(one, 1)]), True)
        self.assertIs(is_parted_by_prime(4, 5, [(one, 1), (one, 1)]), False)

    def test_each_thing_bent(self):
        for n, p in LOOKED_AT:
            for bent in bent_ones(parted_by_prime(n, p)):
                self.check_not(n, p, bent)

    def test_numbers_bent(self):
        for n, p in LOOKED_AT + ((31, 2), (30, 31), (29, 2), (28, 29)):
            told = parted_by_prime(n, p)
            for at, (f, _) in enumerate(told):
                for place, number in enumerate(f):
                    others = [number + p, number - p, number + 1, number - 1, 10 ** 70, None, str(number), [number]]
                    others += [bool(number)] if number in (0, 1) else []
                    for other in others:
                        bent = deepcopy(told)
                        bent[at][0][place] = other
                        self.check_not(n, p, bent)
                for bent in (f + [0], f[:-1], [0] + f, f[::-1] + [1], tuple(f), [f], [number + p for number in f]):
                    self.check_not(n, p, told[:at] + [(bent, told[at][1])] + told[at + 1:])

    def test_times_bent(self):
        for n, p in LOOKED_AT:
            told = parted_by_prime(n, p)
            for at, (f, times) in enumerate(told):
                for other in (times + 1, times - 1, 0, -times, times + p, None, str(times), [times], 10 ** 40):
                    if other != times:
                        self.check_not(n, p, told[:at] + [(f, other)] + told[at + 1:])
                if times == 1:
                    self.check_not(n, p, told[:at] + [(f, True)] + told[at + 1:])
                for row in ([f, times], (times, f), (f,), (f, times, times), (f, times, None), f, times):
                    self.check_not(n, p, told[:at] + [row] + told[at + 1:])
                if times > 1:
                    self.check_not(n, p, told[:at] + [(f, 1)] * times + told[at + 1:])

    def test_parts_left_out_twice_and_exchanged(self):
        for n, p in LOOKED_AT + ((31, 2), (30, 31)):
            told = parted_by_prime(n, p)
            for at, row in enumerate(told):
                self.check_not(n, p, told[:at] + told[at + 1:])
                self.check_not(n, p, told[:at] + [row, deepcopy(row)] + told[at + 1:])
                self.check_not(n, p, told[:at] + [([1], 1), row] + told[at + 1:])
                if at > 0:
                    self.check_not(n, p, told[:at - 1] + [row, told[at - 1]] + told[at + 1:])
            self.check_not(n, p, told + told)
            self.check_not(n, p, tuple(told))
            self.check_not(n, p, [list(row) for row in told])
            self.check_not(n, p, [f for f, _ in told])

    def test_two_multiplied_into_one(self):
        for n, p in ((7, 2), (15, 2), (21, 2), (8, 3), (3, 7), (30, 31), (4, 5), (20, 5), (12, 5)):
            told = parted_by_prime(n, p)
            self.assertGreater(len(told), 1)
            for i, j in every(range(len(told)), range(len(told))):
                if i < j:
                    whole = product_by([(told[i][0], 1), (told[j][0], 1)], p)
                    rows = [row for at, row in enumerate(told) if at not in (i, j)]
                    self.check_not(n, p, sorted(rows + [(whole, told[i][1])]))
        # All in one: the root polynomial by p itself.
        for n, p in ((7, 2), (15, 2), (30, 31), (9, 3), (12, 2)):
            self.check_not(n, p, [([number % p for number in plain_root_poly(n)], 1)])

    def test_parts_times_a_number(self):
        for n, p in ((7, 3), (8, 3), (3, 7), (30, 31)):
            told = parted_by_prime(n, p)
            twice = [([2 * number % p for number in f], times) for f, times in told]
            self.check_not(n, p, twice)
            self.check_not(n, p, sorted(twice))
            self.check_not(n, p, sorted([([-number % p for number in f], times) for f, times in told]))

    def test_the_lists_of_others(self):
        for n, p in LOOKED_AT:
            for m, q in LOOKED_AT:
                told = parted_by_prime(m, q)
                check_judged(self, told == parted_by_prime(n, p), is_parted_by_prime, n, p, told)

    def test_things_of_all_kinds(self):
        for n, p in LOOKED_AT:
            told = parted_by_prime(n, p)
            for odd in ODD_ONES:
                self.check_not(n, p, odd)
                self.check_not(n, p, [odd] + told[1:])
                self.check_not(n, p, [(odd, told[0][1])] + told[1:])
                if odd is True or odd != told[0][1]:
                    self.check_not(n, p, [(told[0][0], odd)] + told[1:])

    def test_deep_things(self):
        deep = 1
        for _ in range(50):
            deep = [(deep, 1)]
        self.check_not(1, 2, deep)


class Refused(unittest.TestCase):
    def test_no_prime(self):
        for n in (1, 2, 4, 7, 9, 12, 25, 30, 31):
            for p in NO_PRIMES:
                self.assertIs(refusal(parted_by_prime, n, p), NoPrime)
                for thing in (None, [], [([1, 1], 1)], 3, "x", True, (), [[]]):
                    self.assertIs(refusal(is_parted_by_prime, n, p, thing), NoPrime)

    def test_all_to_the_bound(self):
        for p in range(-3, 32):
            refused = None if p in PRIMES else NoPrime
            self.assertIs(refusal(parted_by_prime, 6, p), refused, p)
            self.assertIs(refusal(is_parted_by_prime, 6, p, []), refused, p)


if __name__ == "__main__":
    unittest.main()
