"""Stage 8: points 23 and 24, with 2, 3 and 4."""

import unittest
from itertools import product as every

from rootwheel.errors import NoPrime
from rootwheel.signs import shows_sign, sign_by, sign_power, sign_sum, square_of
from rootwheel.sums import sum_times
from tests.helpers import (
    ODD_ONES, bent_ones, check_judged, check_told, numbers_from, plain_number, plain_product, refusal, stream,
)

PRIMES = (3, 5, 7, 11, 13, 17, 19, 23, 29, 31)
PAIRS = [(p, q) for p, q in every(PRIMES[:7], PRIMES[:7]) if p != q]
NO_PRIMES = (2, 1, 0, -1, -2, -3, -5, -19, 4, 6, 8, 9, 10, 15, 20)
GREAT = 10 ** 90 - 1


def plain_sign(a, p):
    """The sign, by all squares."""
    if a % p == 0:
        return 0
    return 1 if any((a - x * x) % p == 0 for x in range(p)) else -1


def round_by(f, p):
    """The polynomial as a sum round p."""
    some = [0] * p
    for at, number in enumerate(f):
        some[at % p] += number
    return some


class Signs(unittest.TestCase):
    def test_told_ones(self):
        for a, p, told in (
            (0, 3, 0), (1, 3, 1), (2, 3, -1), (3, 3, 0), (-1, 3, -1), (-1, 5, 1), (2, 5, -1), (4, 5, 1), (2, 7, 1),
            (3, 7, -1), (7, 7, 0), (-7, 7, 0), (5, 11, 1), (31, 31, 0), (2, 31, 1), (3, 31, -1), (-1, 31, -1),
        ):
            self.assertEqual(check_told(self, sign_by, a, p), told)

    def test_small_numbers(self):
        for p in PRIMES:
            for a in range(-3 * p, 3 * p + 1):
                told = sign_by(a, p)
                self.assertIs(type(told), int)
                self.assertEqual(told, plain_sign(a, p), (a, p))

    def test_great_numbers(self):
        for p in PRIMES:
            source = stream(p)
            for a in numbers_from(source, 20, -GREAT, GREAT) + [GREAT, -GREAT, 10 ** 89, GREAT - GREAT % p]:
                self.assertEqual(sign_by(a, p), plain_sign(a, p), (a, p))
                # By the power of half of p less 1, too.
                self.assertEqual(sign_by(a, p) % p, pow(a, (p - 1) // 2, p))

    def test_no_odd_prime(self):
        for p in NO_PRIMES + (21, 25, 27, 341, 961):
            for a in (0, 1, -1, 2, p, GREAT):
                self.assertIs(refusal(sign_by, a, p), NoPrime)


class SignSums(unittest.TestCase):
    def test_told_ones(self):
        for p, told in (
            (3, [0, 1, -1]), (5, [0, 1, -1, -1, 1]), (7, [0, 1, 1, -1, 1, -1, -1]),
            (11, [0, 1, -1, 1, 1, 1, -1, -1, -1, 1, -1]),
        ):
            self.assertEqual(check_told(self, sign_sum, p), told)

    def test_all_up_to_the_bound(self):
        for p in PRIMES:
            self.assertEqual(check_told(self, sign_sum, p), [plain_sign(a, p) for a in range(p)])

    def test_no_odd_prime(self):
        for p in NO_PRIMES + (21, 25, 27, 341, 961):
            self.assertIs(refusal(sign_sum, p), NoPrime)


class Squares(unittest.TestCase):
    def test_told_ones(self):
        for p, told in (
            (3, ([0, 1, -1], -3, [(3, 0, 1)])), (5, ([0, 1, -1, -1, 1], 5, [(5, 0, -1)])),
            (7, ([0, 1, 1, -1, 1, -1, -1], -7, [(7, 0, 1)])),
        ):
            self.assertEqual(check_told(self, square_of, p), told)

    def test_all_up_to_the_bound(self):
        for p in PRIMES:
            told = check_told(self, square_of, p)
            self.assertIs(type(told), tuple)
            some, number, wheels = told
            self.assertEqual(some, [plain_sign(a, p) for a in range(p)])
            self.assertEqual(number, p if p % 4 == 1 else -p)
            # Round a prime there is but one wheel.
            self.assertEqual([row[:2] for row in wheels], [(p, 0)])
            self.assertIs(type(wheels[0]), tuple)
            c = wheels[0][2]
            self.assertNotEqual(c, 0)
            square = round_by(plain_product(some, some), p)
            self.assertEqual(square, [number + c] + [c] * (p - 1))
            self.assertEqual(square, sum_times(some, some))
            self.assertEqual(plain_number(square), plain_number([number] + [0] * (p - 1)))

    def test_no_odd_prime(self):
        for p in NO_PRIMES + (21, 25, 27, 341, 961):
            self.assertIs(refusal(square_of, p), NoPrime)


class Powers(unittest.TestCase):
    def test_told_ones(self):
        for p, q, told in (
            (3, 5, (-1, [0, 2, -2])), (5, 3, (-1, [0, 2, -2, -2, 2])), (3, 7, (1, [0, -4, 4])),
            (7, 3, (-1, [0, -2, -2, 2, -2, 2, 2])),
        ):
            self.assertEqual(check_told(self, sign_power, p, q), told)

    def test_all_pairs_to_the_bound(self):
        for p, q in PAIRS:
            told = check_told(self, sign_power, p, q)
            self.assertIs(type(told), tuple)
            sign, some = told
            self.assertEqual(sign, plain_sign(q, p))
            self.assertEqual(len(some), p)
            first = [plain_sign(a, p) for a in range(p)]
            power = [1] + [0] * (p - 1)
            for _ in range(q):
                power = round_by(plain_product(power, first), p)
            self.assertEqual([number * q + sign * own for number, own in zip(some, first)], power)

    def test_the_power_of_half(self):
        for p, q in PAIRS:
            number = square_of(p)[1]
            self.assertEqual(sign_power(p, q)[0] % q, pow(number, (q - 1) // 2, q))
            # So the two signs of unlike primes hang together.
            turn = -1 if p % 4 == 3 and q % 4 == 3 else 1
            self.assertEqual(sign_power(p, q)[0] * sign_power(q, p)[0], turn)

    def test_refused(self):
        things = (None, [], (1, [0, 2, -2]), (-1, [0, 2, -2]), 5, "x", True, ())
        pairs = [(p, q) for p, q in every(PRIMES[:7] + NO_PRIMES, PRIMES[:7] + NO_PRIMES) if p == q]
        pairs += [(p, q) for p, q in every(NO_PRIMES, PRIMES[:7])] + [(p, q) for p, q in every(PRIMES[:7], NO_PRIMES)]
        for p, q in pairs + [(p, q) for p, q in every(NO_PRIMES, NO_PRIMES)]:
            self.assertIs(refusal(sign_power, p, q), NoPrime, (p, q))
            for thing in things:
                self.assertIs(refusal(shows_sign, p, q, thing), NoPrime, (p, q))


class Judge(unittest.TestCase):
    def check_not(self, p, q, thing):
        check_judged(self, False, shows_sign, p, q, thing)

    def test_the_tuple_itself(self):
        for p, q in PAIRS:
            check_judged(self, True, shows_sign, p, q, sign_power(p, q))

    def test_each_thing_bent(self):
        for p, q in ((3, 5), (5, 3), (3, 7), (3, 19), (7, 3), (13, 17)):
            for bent in bent_ones(sign_power(p, q)):
                self.check_not(p, q, bent)

    def test_signs_and_sums_bent(self):
        for p, q in PAIRS:
            sign, some = sign_power(p, q)
            for other in (-sign, 0, True, False, None, "1", [sign], sign + q, sign - q, 2, 10 ** 60):
                self.check_not(p, q, (other, some))
            first = sign_sum(p)
            # The sign turned, and the sum so that both come to the power, if q were not to divide.
            self.check_not(p, q, (-sign, [number + 2 * sign * own for number, own in zip(some, first)]))
            for bent in (
                some + [0], some[:-1], some[1:], some[1:] + some[:1], some[-1:] + some[:-1], [0] + some, tuple(some),
                [some], some[::-1] if some[::-1] != some else [], [-number for number in some], [0] * p, first, None,
                [number + 1 for number in some], [str(number) for number in some],
                [number * q for number in some], [number * q + sign * own for number, own in zip(some, first)],
            ):
                self.check_not(p, q, (sign, bent))
            for thing in ([sign, some], (some, sign), (sign,), (sign, some, []), (sign, some, some), some, sign):
                self.check_not(p, q, thing)

    def test_truths_for_numbers(self):
        for p, q in PAIRS:
            sign, some = sign_power(p, q)
            self.check_not(p, q, (bool(sign), some))
            for at, number in enumerate(some):
                if number in (0, 1):
                    self.check_not(p, q, (sign, some[:at] + [bool(number)] + some[at + 1:]))
                for other in (number + 1, number - 1, number + q, number + 10 ** 60, None):
                    self.check_not(p, q, (sign, some[:at] + [other] + some[at + 1:]))

    def test_the_tuples_of_others(self):
        tuples = {pair: sign_power(*pair) for pair in PAIRS}
        for p, q in PAIRS:
            for pair, told in tuples.items():
                if pair != (p, q):
                    self.check_not(p, q, told)

    def test_things_of_all_kinds(self):
        for p, q in ((3, 5), (3, 7), (19, 17)):
            sign, some = sign_power(p, q)
            for odd in ODD_ONES + ("text", 10 ** 40):
                self.check_not(p, q, odd)
                self.check_not(p, q, (sign, odd))
                if odd is True or odd != sign:
                    self.check_not(p, q, (odd, some))

    def test_deep_things(self):
        deep = 0
        for _ in range(50):
            deep = [deep]
        self.check_not(3, 5, deep)
        self.check_not(3, 5, (-1, deep))
        self.check_not(3, 5, (-1, [deep, 2, -2]))


if __name__ == "__main__":
    unittest.main()
