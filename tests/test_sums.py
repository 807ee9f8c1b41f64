"""Stage 4: points 10 to 13, with 2, 3 and 4; what the judges of point 14 look at stands in its own file."""

import unittest

from rootwheel.sums import come_to, ground, grounded, nought, same, spread, sum_plus, sum_times, turned, wheel
from tests.helpers import (
    check_judged, check_told, numbers_from, plain_number, plain_primes, plain_product, plain_rest, plain_root_poly,
    plain_units, stream,
)

GREAT = 10 ** 70 - 1
# One, primes, powers of primes, and products of two and three primes, to the bound.
COUNTS = (1, 2, 3, 4, 5, 6, 8, 9, 12, 15, 18, 20, 25, 27, 30, 31, 32, 36, 42, 45, 49, 60, 61)
# What spread tells of these may be as long, with three and four primes among them.
WIDE = (64, 105, 120, 125, 180, 210, 243, 300, 305)


def some_sums(n, seed=1):
    """Sums round n of all kinds."""
    source = stream(100 * n + seed)
    one = [0] * n
    one[-1] = 1
    return [
        [0] * n, [1] * n, [1] + [0] * (n - 1), one, [-7] + [0] * (n - 1), numbers_from(source, n, -1, 1),
        numbers_from(source, n, -9, 9), numbers_from(source, n, 0, 3), numbers_from(source, n, -GREAT, GREAT),
        [GREAT if at % 2 else -GREAT for at in range(n)],
    ]


def some_wheels(n, seed, great=5):
    """Wheels in a row round n, about every second of all."""
    source = stream(seed + n)
    rows = []
    for p in plain_primes(n):
        for j in range(n // p):
            c, put = numbers_from(source, 2, -great, great)
            if c != 0 and put % 2 == 0:
                rows.append((p, j, c))
    return rows


def plain_wheel(n, p, j):
    places = [(j + i * (n // p)) % n for i in range(p)]
    return [1 if place in places else 0 for place in range(n)]


def plain_come_to(n, wheels):
    rows = [[c * number for number in plain_wheel(n, p, j)] for p, j, c in wheels]
    return [sum(row[place] for row in rows) for place in range(n)]


def plain_ground(n):
    """By the powers of primes, each found by trying."""
    told = []
    for j in range(n):
        kept = True
        for p in plain_primes(n):
            times = max(t for t in range(1, 9) if n % p ** t == 0)
            kept = kept and j % p ** times < p ** times - p ** (times - 1)
        if kept:
            told.append(j)
    return told


class PlusAndTimes(unittest.TestCase):
    def test_told_plus(self):
        for one, other, told in (
            ([3], [4], [7]), ([-3], [3], [0]), ([1, 2], [3, -4], [4, -2]), ([0, 0, 0], [0, 0, 0], [0, 0, 0]),
            ([1, 2, 3], [-1, -2, -3], [0, 0, 0]), ([GREAT, 0], [1, -GREAT], [10 ** 70, -GREAT]),
        ):
            self.assertEqual(check_told(self, sum_plus, one, other), told)

    def test_told_times(self):
        for one, other, told in (
            ([3], [4], [12]), ([-3], [0], [0]), ([1, 2], [3, -4], [-5, 2]), ([0, 1], [0, 1], [1, 0]),
            ([0, 1, 0], [0, 0, 1], [1, 0, 0]), ([0, 0, 1], [0, 0, 1], [0, 1, 0]), ([1, 2, 3], [0, 1, 0], [3, 1, 2]),
            ([1, 2, 3], [4, 5, 6], [31, 31, 28]), ([0, 1, 0, 0], [0, 0, 0, 1], [1, 0, 0, 0]),
            ([1, 1, 1], [1, -1, 0], [0, 0, 0]), ([GREAT, -GREAT], [GREAT, 1], [GREAT ** 2 - GREAT, GREAT - GREAT ** 2]),
        ):
            self.assertEqual(check_told(self, sum_times, one, other), told)

    def test_of_all_kinds(self):
        for n in COUNTS:
            for one in some_sums(n):
                for other in some_sums(n, 2)[1::2]:
                    self.assertEqual(sum_plus(one, other), [one[at] + other[at] for at in range(n)])
                    whole = plain_product(one, other) + [0]
                    told = check_told(self, sum_times, one, other)
                    self.assertEqual(told, [whole[at] + whole[at + n] for at in range(n)])
            check_told(self, sum_plus, some_sums(n)[-1], some_sums(n)[-2])

    def test_of_numbers_they_are_the_usual_ones(self):
        for n in (1, 2, 5, 8, 12, 30):
            one, other = some_sums(n)[6], some_sums(n, 3)[8]
            product = plain_rest(plain_product(plain_number(one), plain_number(other)), plain_root_poly(n))
            self.assertEqual(plain_number(sum_times(one, other)), product)

    def test_the_very_same_list_twice(self):
        for n in COUNTS:
            for some in some_sums(n):
                before = list(some)
                self.assertEqual(sum_plus(some, some), [2 * number for number in before])
                self.assertEqual(sum_times(some, some), sum_times(before, list(before)))
                self.assertEqual(some, before)

    def test_by_noughts_and_one(self):
        for n in COUNTS:
            for some in some_sums(n):
                nothing, one = [0] * n, [1] + [0] * (n - 1)
                for told in (
                    sum_plus(some, nothing), sum_plus(nothing, some), sum_times(some, one), sum_times(one, some),
                ):
                    self.assertEqual(told, some)
                    self.assertIsNot(told, some)
                self.assertEqual(sum_times(some, nothing), nothing)
                self.assertIsNot(sum_times(nothing, nothing), nothing)

    def test_of_what_spread_told(self):
        for n in WIDE:
            one, other = some_sums(n)[8], some_sums(n, 4)[8]
            told = sum_times(one, other)
            for at in (0, 1, n // 2, n - 1):
                self.assertEqual(told[at], sum(one[i] * other[(at - i) % n] for i in range(n)))
            self.assertEqual(sum_plus(one, other)[-1], one[-1] + other[-1])


class TurnedAndSpread(unittest.TestCase):
    def test_told_turned(self):
        for some, j, told in (
            ([5], 0, [5]), ([5], 9, [5]), ([5], -1, [5]), ([1, 2, 3, 4], 0, [1, 2, 3, 4]),
            ([1, 2, 3, 4], 1, [4, 1, 2, 3]), ([1, 2, 3, 4], -1, [2, 3, 4, 1]), ([1, 2, 3, 4], 4, [1, 2, 3, 4]),
            ([1, 2, 3, 4], 6, [3, 4, 1, 2]), ([1, 2, 3, 4], -7, [4, 1, 2, 3]), ([1, 2, 3], 10 ** 69, [3, 1, 2]),
            ([1, 2, 3], -10 ** 69, [2, 3, 1]),
        ):
            self.assertEqual(check_told(self, turned, some, j), told)

    def test_turned_is_times_a_root(self):
        for n in COUNTS + WIDE:
            for j in (0, 1, -1, n - 1, n, n + 1, -n, 3 * n + 2, GREAT, -GREAT):
                root = [0] * n
                root[j % n] = 1
                some = some_sums(n)[8]
                self.assertEqual(turned(some, j), sum_times(some, root))
                check_told(self, turned, some_sums(n)[9], j)

    def test_told_spread(self):
        for some, k, told in (
            ([5], 1, [5]), ([5], 3, [5, 0, 0]), ([1, 2], 1, [1, 2]), ([1, 2], 2, [1, 0, 2, 0]),
            ([1, -2, 3], 3, [1, 0, 0, -2, 0, 0, 3, 0, 0]), ([0, 0], 2, [0, 0, 0, 0]), ([GREAT], 2, [GREAT, 0]),
        ):
            self.assertEqual(check_told(self, spread, some, k), told)

    def test_spread_of_all_kinds(self):
        for n in COUNTS:
            for k in (1, 2, 3, 4, 5) + ((60 // n,) if n < 31 else ()):
                for some in some_sums(n):
                    told = check_told(self, spread, some, k)
                    self.assertEqual(len(told), k * n)
                    self.assertEqual(told[::k], some)
                    self.assertEqual([told[at] for at in range(k * n) if at % k], [0] * (n * (k - 1)))

    def test_spread_is_the_same_number(self):
        for n, k in ((1, 2), (2, 3), (3, 5), (4, 2), (5, 4), (6, 2), (15, 2)):
            some = some_sums(n)[6]
            x_to_k = [0] * k + [1]
            total = [0]
            for number in reversed(some):
                total = plain_product(total, x_to_k)
                total[0] += number
            self.assertEqual(plain_number(spread(some, k)), plain_rest(total, plain_root_poly(n * k)))


class GroundAndWheel(unittest.TestCase):
    def test_told_ground(self):
        for n, told in (
            (1, [0]), (2, [0]), (3, [0, 1]), (4, [0, 1]), (5, [0, 1, 2, 3]), (6, [0, 4]), (8, [0, 1, 2, 3]),
            (9, [0, 1, 2, 3, 4, 5]), (10, [0, 2, 6, 8]), (12, [0, 1, 4, 9]), (15, [0, 1, 3, 6, 7, 10, 12, 13]),
            (18, [0, 2, 4, 10, 12, 14]), (30, [0, 6, 10, 12, 16, 18, 22, 28]),
        ):
            self.assertEqual(check_told(self, ground, n), told)

    def test_all_grounds(self):
        for n in range(1, 306):
            told = ground(n)
            self.assertEqual(told, plain_ground(n), n)
            self.assertEqual(len(told), len(plain_units(n)))

    def test_told_wheels(self):
        for n, p, j, told in (
            (2, 2, 0, [1, 1]), (3, 3, 0, [1, 1, 1]), (4, 2, 0, [1, 0, 1, 0]), (4, 2, 1, [0, 1, 0, 1]),
            (6, 2, 2, [0, 0, 1, 0, 0, 1]), (6, 3, 1, [0, 1, 0, 1, 0, 1]), (9, 3, 2, [0, 0, 1, 0, 0, 1, 0, 0, 1]),
        ):
            self.assertEqual(check_told(self, wheel, n, p, j), told)

    def test_each_prime_and_beginning(self):
        for n in tuple(range(1, 62)) + WIDE:
            for p in plain_primes(n):
                for j in range(n // p):
                    told = wheel(n, p, j)
                    self.assertEqual(told, plain_wheel(n, p, j))
                    self.assertEqual(sum(told), p)
                    if n < 62:
                        self.assertFalse(any(plain_number(told)))

    def test_great_prime(self):
        self.assertEqual(check_told(self, wheel, 61, 61, 0), [1] * 61)
        self.assertEqual(check_told(self, wheel, 60, 5, 11)[11::12], [1] * 5)


class ComeTo(unittest.TestCase):
    def test_told_ones(self):
        for n, wheels, told in (
            (1, [], [0]), (4, [], [0, 0, 0, 0]), (2, [(2, 0, 5)], [5, 5]), (4, [(2, 1, -3)], [0, -3, 0, -3]),
            (6, [(2, 0, 1), (3, 0, 1)], [2, 0, 1, 1, 1, 0]), (6, [(2, 0, 1), (3, 0, -1)], [0, 0, -1, 1, -1, 0]),
            (6, [(2, 0, 1), (2, 1, 1), (2, 2, 1), (3, 0, -1), (3, 1, -1)], [0] * 6),
            (3, [(3, 0, GREAT)], [GREAT] * 3), (3, [(3, 0, -GREAT)], [-GREAT] * 3),
        ):
            self.assertEqual(check_told(self, come_to, n, wheels), told)

    def test_of_all_kinds(self):
        for n in COUNTS + WIDE:
            for great in (3, GREAT):
                wheels = some_wheels(n, 7, great)
                told = check_told(self, come_to, n, wheels)
                self.assertEqual(told, plain_come_to(n, wheels))
                if n < 62:
                    self.assertFalse(any(plain_number(told)))
            check_told(self, come_to, n, [])


class Grounded(unittest.TestCase):
    def check_wheels(self, n, wheels, greatest):
        self.assertIs(type(wheels), list)
        keys = [(p, j) for p, j, _ in wheels]
        self.assertEqual(keys, sorted(set(keys)))
        for row in wheels:
            self.assertIs(type(row), tuple)
            p, j, c = row
            self.assertIn(p, plain_primes(n))
            self.assertIn(j, range(n // p))
            self.assertNotEqual(c, 0)
            self.assertLess(abs(c), 10 * greatest)

    def check_grounded(self, some):
        """All that point 12 tells of what is told of the sum, which comes back."""
        n = len(some)
        told = check_told(self, grounded, some)
        self.assertIs(type(told), tuple)
        rest, wheels = told
        self.assertIs(type(rest), list)
        self.check_wheels(n, wheels, max(abs(number) for number in some))
        places = plain_ground(n)
        self.assertEqual([j for j in range(n) if rest[j] != 0 and j not in places], [])
        self.assertEqual(sum_plus(rest, plain_come_to(n, wheels)), some)
        return told

    def test_told_ones(self):
        for some, rest in (
            ([5], [5]), ([0], [0]), ([-5], [-5]), ([1, 1], [0, 0]), ([3, 5], [-2, 0]), ([0, -5], [5, 0]),
            ([0, 0, 1], [-1, -1, 0]), ([1, 2, 3], [-2, -1, 0]), ([0, -1, 0, 2], [0, -3, 0, 0]),
            ([0, 1, 0, 0, 0, 0], [0, 0, 0, 0, -1, 0]), ([0, 0, 1, 0, 0, 0], [-1, 0, 0, 0, -1, 0]),
            ([GREAT, -GREAT], [2 * GREAT, 0]),
        ):
            self.assertEqual(self.check_grounded(some)[0], rest)

    def test_of_one_prime_the_wheels_are_bare(self):
        self.assertEqual(grounded([3, 5]), ([-2, 0], [(2, 0, 5)]))
        self.assertEqual(grounded([0, 0, 7]), ([-7, -7, 0], [(3, 0, 7)]))
        self.assertEqual(grounded([1, 0, 0, 2]), ([1, -2, 0, 0], [(2, 1, 2)]))
        self.assertEqual(grounded([9]), ([9], []))

    def test_of_all_kinds(self):
        for n in COUNTS + (7, 10, 14, 16, 24, 33, 50, 56, 59):
            for some in some_sums(n) + some_sums(n, 5)[5:9]:
                rest, _ = self.check_grounded(some)
                self.assertEqual(plain_number(rest), plain_number(some))

    def test_of_what_spread_told(self):
        for n in WIDE:
            for some in some_sums(n):
                self.check_grounded(some)
        for n, k in ((42, 5), (30, 5), (60, 5), (61, 5), (35, 3), (1, 5)):
            for some in some_sums(n):
                self.check_grounded(spread(some, k))

    def test_on_the_ground_already(self):
        for n in COUNTS + WIDE:
            places = plain_ground(n)
            for some in some_sums(n):
                there = [some[j] if j in places else 0 for j in range(n)]
                self.assertEqual(self.check_grounded(there), (there, []))

    def test_of_noughts(self):
        for n in COUNTS + WIDE:
            self.assertEqual(self.check_grounded([0] * n), ([0] * n, []))

    def test_the_same_rest_where_they_differ_by_wheels(self):
        for n in COUNTS + WIDE:
            for some in some_sums(n):
                rest = grounded(some)[0]
                for great in (2, 10 ** 69):
                    other = sum_plus(some, plain_come_to(n, some_wheels(n, 11, great)))
                    self.assertEqual(grounded(other)[0], rest)

    def test_another_rest_where_they_differ_by_a_root(self):
        for n in COUNTS:
            for some in some_sums(n):
                for j in (0, n // 2, n - 1):
                    other = list(some)
                    other[j] += 1
                    self.assertNotEqual(grounded(other)[0], grounded(some)[0])

    def test_the_bound_of_the_counts(self):
        for n in (6, 12, 30, 42, 60, 210):
            worst = 0
            source = stream(n)
            for _ in range(40):
                some = [(1, -1)[number] for number in numbers_from(source, n, 0, 1)]
                worst = max([worst] + [abs(c) for _, _, c in self.check_grounded(some)[1]])
            self.assertGreater(worst, 1)
        # The most that can come together by turns: each place against the next one of each wheel.
        for n in (30, 42, 60, 210):
            primes = plain_primes(n)
            for bits in range(2 ** len(primes)):
                some = [
                    1 if sum((j % p == p - 1) != (bits >> at & 1) for at, p in enumerate(primes)) % 2 else -1
                    for j in range(n)
                ]
                self.check_grounded(some)


class Nought(unittest.TestCase):
    def check_nought(self, some, zero):
        told = check_told(self, nought, some)
        self.assertIs(type(told), tuple)
        rest, wheels = grounded(some)
        n = len(some)
        self.assertEqual(not any(rest), zero)
        if zero:
            self.assertEqual((len(told), told[0]), (2, "nought"))
            self.assertEqual(come_to(n, told[1]), some)
        else:
            self.assertEqual((len(told), told[0], told[1]), (3, "not", rest))
            self.assertEqual(sum_plus(rest, come_to(n, told[2])), some)
        return told

    def test_told_ones(self):
        self.assertEqual(nought([0]), ("nought", []))
        self.assertEqual(nought([3]), ("not", [3], []))
        self.assertEqual(nought([0, 0, 0]), ("nought", []))
        self.assertEqual(nought([2, 2]), ("nought", [(2, 0, 2)]))
        self.assertEqual(nought([1, 2]), ("not", [-1, 0], [(2, 0, 2)]))
        self.assertEqual(nought([0, 1, 0, 1]), ("nought", [(2, 1, 1)]))
        self.assertEqual(nought([-4, -4, -4]), ("nought", [(3, 0, -4)]))

    def test_of_wheels(self):
        for n in COUNTS + WIDE:
            for great in (1, 4, 10 ** 68):
                self.check_nought(plain_come_to(n, some_wheels(n, 13, great)), True)
            for p in plain_primes(n):
                self.check_nought(plain_wheel(n, p, n // p - 1), True)
            self.check_nought([0] * n, True)
            self.check_nought([1] * n, n > 1)

    def test_of_a_single_root(self):
        for n in COUNTS + WIDE:
            for j in sorted({0, 1 % n, n // 2, n - 1}):
                for c in (1, -1, GREAT):
                    some = [0] * n
                    some[j] = c
                    self.check_nought(some, False)

    def test_just_where_the_number_is_nought(self):
        for n in range(1, 62):
            for some in some_sums(n, 6):
                self.check_nought(some, not any(plain_number(some)))
        for n in (2, 3, 4, 5, 6, 8):
            for at in range(3 ** n):
                some = [at // 3 ** place % 3 - 1 for place in range(n)]
                self.assertEqual(nought(some)[0] == "nought", not any(plain_number(some)))

    def test_nearly_nought(self):
        for n in COUNTS:
            some = plain_come_to(n, some_wheels(n, 17))
            some[n // 2] += 1
            self.check_nought(some, False)


class Same(unittest.TestCase):
    def test_told_ones(self):
        for one, other, told in (
            ([5], [5], True), ([5], [-5], False), ([0], [0], True), ([1, 0], [0, -1], True), ([1, 0], [0, 1], False),
            ([2, 3], [0, 1], True), ([0, 0, 1], [-1, -1, 0], True), ([0, 0, 1], [0, 1, 0], False),
            ([0, 0, 1, 0], [-1, 0, 0, 0], True), ([0, 0, 0, 1], [0, -1, 0, 0], True),
            ([0, 1, 0, 0, 0, 0], [1, 0, 1, 0, 0, 0], True), ([0, 1, 0, 0, 0, 0], [1, 0, 0, 0, 0, 1], False),
        ):
            check_judged(self, told, same, one, other)
            check_judged(self, told, same, other, one)

    def test_of_all_kinds(self):
        for n in COUNTS:
            rows = some_sums(n) + [sum_plus(some, plain_come_to(n, some_wheels(n, 19))) for some in some_sums(n)]
            forms = [plain_number(some) for some in rows]
            for i, one in enumerate(rows):
                for j, other in enumerate(rows):
                    self.assertIs(same(one, other), forms[i] == forms[j])
            check_judged(self, True, same, rows[8], rows[18])

    def test_of_itself(self):
        for n in COUNTS + WIDE:
            for some in some_sums(n):
                before = list(some)
                self.assertIs(same(some, some), True)
                self.assertEqual(some, before)


if __name__ == "__main__":
    unittest.main()
