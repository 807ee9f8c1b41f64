"""Stage 5: points 15 to 18, with 2, 3 and 4."""

import unittest

from rootwheel.leads import is_least_poly, keepers, least_poly, least_wheel, led, norm, round_of, trace
from rootwheel.roots import root_poly
from rootwheel.sums import ground, spread, sum_plus, sum_times, wheel
from tests.helpers import (
    check_judged, check_told, numbers_from, plain_led, plain_number, plain_parts, plain_primes, plain_product,
    plain_rest, plain_root_poly, plain_units, stream,
)

GREAT = 10 ** 70 - 1
ALL = tuple(range(1, 32))
# Sums that are kept by some units, not by all.
KEPT = (
    [0, 1, 0, 0, 1], [0, 3, -2, -2, 3], [0, 1, 1, 0, 1, 0, 0], [0, 1, 0, 0, 0, 0, 1], [5, 2, 2, -1, 2, -1, -1],
    [0, 1, 0, 1, 0, 0, 0, 0], [0, 1, 0, 0, 0, 0, 0, 1], [0, 1, 0, 0, 0, 1, 0, 0], [0, 1, 0, 0, 0, 0, 0, 0, 1],
    [0, 1, 0, 0, 0, 1, 0, 0, 0, 0, 0, 0], [0, 1, 0, 0, 0, 0, 0, 0, 0, 0, 0, 1], [0, 1, 0, 0, 0, 0, 0, 1, 0, 0, 0, 0],
    [0, 1, 0, 0, 0, 1, 0, 0, 1, 0, 0, 0, 1], [0, 1, 0, 1, 0, 0, 0, 0, 0, 1, 0, 0, 0],
    [0, 1, 1, 0, 1, 0, 0, 0, 1, 0, 0, 0, 0, 0, 0], [0, 0, 1, 0, 0, 0, 0, 0, 0, 0, 0, 0, 0, 1, 0],
)


def root(n, j, many=1):
    """So many times the j-th power of the first root."""
    some = [0] * n
    some[j % n] = many
    return some


def some_sums(n, seed=1):
    source = stream(1000 * n + seed)
    rows = [root(n, 0, 0), root(n, 0), root(n, 1), root(n, n - 1), root(n, n // 2, -3), root(n, 0, -7), [1] * n]
    rows += [numbers_from(source, n, -1, 1), numbers_from(source, n, -9, 9), numbers_from(source, n, -GREAT, GREAT)]
    for d in plain_parts(n)[:-1]:
        rows.append(spread(numbers_from(source, d, -5, 5), n // d))
    return rows + [some for some in KEPT if len(some) == n]


def with_wheels(some, seed=3):
    """The same number otherwise: wheels are put to it."""
    n = len(some)
    source = stream(n + seed)
    for p in plain_primes(n):
        for j in range(n // p):
            many = next(source) % 7 - 3
            some = sum_plus(some, [many * number for number in wheel(n, p, j)])
    return some


def plain_forms(some):
    """The numbers to which the units lead, by the units."""
    return {k: tuple(plain_number(plain_led(some, k))) for k in plain_units(len(some))}


def plain_keepers(some):
    forms = plain_forms(some)
    return [k for k in forms if list(forms[k]) == plain_number(some)]


def plain_whole(poly):
    """The polynomial of the products by the number: of its rows, that of each power of the root."""
    n, form = len(poly), plain_number(poly)
    many = len(form)
    return [plain_rest([0] * at + form, plain_root_poly(n)) for at in range(many)]


def row_times(row, rows):
    return [sum(number * other[at] for number, other in zip(row, rows)) for at in range(len(row))]


def plain_char_poly(some):
    """The product of x less each number to which units lead, by the traces of a row of matrices."""
    rows = plain_whole(some)
    many = len(rows)
    last, numbers = [[0] * many for _ in range(many)], [1]
    for k in range(1, many + 1):
        last = [[number + numbers[-1] * (i == j) for j, number in enumerate(row)] for i, row in enumerate(last)]
        last = [row_times(row, last) for row in rows]
        whole = sum(last[at][at] for at in range(many))
        assert whole % k == 0
        numbers.append(-whole // k)
    return numbers[::-1]


def value_at(f, some):
    """What the polynomial comes to at the sum, as a sum."""
    total = [0] * len(some)
    for number in reversed(f):
        total = sum_times(total, some)
        total[0] += number
    return total


class Case(unittest.TestCase):
    def check_rest(self, some):
        places = ground(len(some))
        self.assertIs(type(some), list)
        self.assertEqual([j for j, number in enumerate(some) if number != 0 and j not in places], [])

    def check_same(self, one, other):
        self.assertEqual(plain_number(one), plain_number(other))


class Led(Case):
    def test_told_ones(self):
        for some, k, told in (
            ([5], 0, [5]), ([1, 2], 1, [1, 2]), ([1, 2, 3], 1, [1, 2, 3]), ([1, 2, 3], 2, [1, 3, 2]),
            ([1, 2, 3, 4], 3, [1, 4, 3, 2]), ([1, 2, 3, 4, 5], 2, [1, 4, 2, 5, 3]),
            ([1, 2, 3, 4, 5], 4, [1, 5, 4, 3, 2]), ([1, 2, 3, 4, 5, 6], 5, [1, 6, 5, 4, 3, 2]),
            ([0, 0, 0], 2, [0, 0, 0]), ([0, GREAT, -GREAT], 2, [0, -GREAT, GREAT]),
        ):
            self.assertEqual(check_told(self, led, some, k), told)

    def test_each_unit(self):
        for n in tuple(range(1, 62)):
            some = some_sums(n)[8]
            for k in plain_units(n):
                told = led(some, k)
                self.assertEqual(told, plain_led(some, k))
                self.assertEqual([told[k * j % n] for j in range(n)], some)
            check_told(self, led, some_sums(n)[9], plain_units(n)[-1])

    def test_by_one_and_by_the_greatest(self):
        for n in range(2, 62):
            for some in some_sums(n):
                told = led(some, 1)
                self.assertEqual(told, some)
                self.assertIsNot(told, some)
                self.assertEqual(led(some, n - 1), some[:1] + some[1:][::-1])

    def test_sums_and_products_are_led_to_such(self):
        for n in (1, 2, 5, 8, 12, 15, 30):
            one, other = some_sums(n)[8], some_sums(n, 2)[8]
            for k in plain_units(n):
                self.assertEqual(led(sum_plus(one, other), k), sum_plus(led(one, k), led(other, k)))
                self.assertEqual(led(sum_times(one, other), k), sum_times(led(one, k), led(other, k)))

    def test_one_behind_the_other(self):
        for n in (5, 8, 12, 21):
            some = some_sums(n)[8]
            for k in plain_units(n):
                for other in plain_units(n):
                    self.assertEqual(led(led(some, k), other), led(some, k * other % n))


class Keepers(Case):
    def test_told_ones(self):
        for some, told in (
            ([5], [0]), ([0], [0]), ([1, 2], [1]), ([0, 1, 0], [1]), ([0, 1, 1], [1, 2]), ([4, 0, 0], [1, 2]),
            ([0, 1, 0, 1], [1, 3]), ([0, 1, 0, 0], [1]), ([0, 0, 1, 0], [1, 3]), (KEPT[0], [1, 4]),
            (KEPT[2], [1, 2, 4]), (KEPT[3], [1, 6]), (KEPT[5], [1, 3]), (KEPT[6], [1, 7]), (KEPT[7], [1, 3, 5, 7]),
            (KEPT[9], [1, 5]), (KEPT[12], [1, 5, 8, 12]), (KEPT[13], [1, 3, 9]), (KEPT[14], [1, 2, 4, 8]),
        ):
            self.assertEqual(check_told(self, keepers, some), told, some)

    def test_of_all_kinds(self):
        for n in ALL:
            for some in some_sums(n):
                told = check_told(self, keepers, some)
                self.assertEqual(told, plain_keepers(some))
                self.assertEqual(keepers(with_wheels(some)), told)

    def test_of_a_single_root(self):
        for n in ALL:
            for j in range(n):
                whole = n // max(d for d in plain_parts(n) if j % d == 0)
                # A root half way round is the number -1, another one's less: odd and twice as many keep the same.
                whole = whole // 2 if whole % 4 == 2 else whole
                self.assertEqual(keepers(root(n, j)), [k for k in plain_units(n) if (k - 1) % whole == 0])

    def test_of_whole_numbers_and_noughts(self):
        for n in ALL:
            for number in (0, 1, -1, GREAT):
                self.assertEqual(keepers(root(n, 0, number)), plain_units(n))
                self.assertEqual(keepers(with_wheels(root(n, 0, number))), plain_units(n))


class RoundOf(Case):
    def test_told_ones(self):
        for some, told in (
            ([5], [[5]]), ([0], [[0]]), ([1, 2], [[-1, 0]]), ([0, 1, 0], [[0, 1, 0], [-1, -1, 0]]),
            ([0, 1, 1], [[-1, 0, 0]]), ([4, 0, 0], [[4, 0, 0]]), ([0, 1, 0, 0], [[0, 1, 0, 0], [0, -1, 0, 0]]),
            ([0, 1, 0, 1], [[0, 0, 0, 0]]), (KEPT[0], [[-1, 0, -1, -1, 0], [0, 0, 1, 1, 0]]),
        ):
            self.assertEqual(check_told(self, round_of, some), told, some)

    def test_of_all_kinds(self):
        for n in ALL:
            for some in some_sums(n):
                told = check_told(self, round_of, some)
                self.assertIs(type(told), list)
                forms = list(dict.fromkeys(plain_forms(some).values()))
                self.assertEqual([tuple(plain_number(one)) for one in told], forms)
                for one in told:
                    self.check_rest(one)
                self.assertEqual(len(told) * len(keepers(some)), len(plain_units(n)))
                self.assertEqual(round_of(with_wheels(some)), told)

    def test_of_single_roots_and_whole_numbers(self):
        for n in ALL:
            self.assertEqual(len(round_of(root(n, 1))), len(plain_units(n)))
            for number in (0, -1, GREAT):
                self.assertEqual(round_of(root(n, 0, number)), [root(n, 0, number)])


class TraceAndNorm(Case):
    def test_told_ones(self):
        for some, whole, product in (
            ([5], 5, 5), ([0], 0, 0), ([-5], -5, -5), ([3, 5], -2, -2), ([1, 1], 0, 0), ([0, 1], -1, -1),
            ([0, 1, 0], -1, 1), ([1, 1, 0], 1, 1), ([2, 1, 0], 3, 3), ([1, -1, 0], 3, 3), ([7, 0, 0], 14, 49),
            ([0, 1, 0, 0], 0, 1), ([1, 1, 0, 0], 2, 2), ([3, 4, 0, 0], 6, 25), ([3, 4, 3, 4], 0, 0),
            ([2, 0, 0, 0, 0], 8, 16), (KEPT[0], -2, 1), ([1, -1, 0, 0, 0], 5, 5), ([1, -1, 0, 0, 0, 0], 1, 1),
            ([0, 1, 0, 0, 0, 0], 1, 1), ([-1, 0, 0, 0, 0, 0, 0], -6, 1), ([1, 1, 0, 0, 0, 0, 0, 0], 4, 2),
        ):
            self.assertEqual(check_told(self, trace, some), whole, some)
            self.assertEqual(check_told(self, norm, some), product, some)

    def check_both(self, some):
        whole, product = trace(some), norm(some)
        self.assertEqual([type(whole), type(product)], [int, int])
        f = plain_char_poly(some)
        many = len(plain_units(len(some)))
        self.assertEqual(len(f), many + 1)
        self.assertEqual((whole, product), (-f[-2], (-1) ** many * f[0]))

    def test_of_all_kinds(self):
        for n in ALL:
            for some in some_sums(n) if n < 17 else some_sums(n)[7:10]:
                self.check_both(some)
                self.assertEqual(trace(with_wheels(some)), trace(some))
                self.assertEqual(norm(with_wheels(some)), norm(some))

    def test_at_the_bounds(self):
        for n in (29, 30, 31):
            some = [GREAT - j if j % 3 else -GREAT + j for j in range(n)]
            self.check_both(some)
            check_told(self, trace, some)
            check_told(self, norm, some)

    def test_of_single_roots(self):
        for n in ALL:
            for j in range(n):
                total = [0] * n
                for k in plain_units(n):
                    total[k * j % n] += 1
                whole = trace(root(n, j))
                self.check_same(total, root(n, 0, whole))
                self.assertEqual(norm(root(n, j)), -1 if n == 2 and j == 1 else 1)

    def test_of_whole_numbers(self):
        for n in ALL:
            many = len(plain_units(n))
            for number in (0, 1, -1, 2, -3, GREAT):
                for some in (root(n, 0, number), with_wheels(root(n, 0, number))):
                    self.assertEqual(trace(some), many * number)
                    self.assertEqual(norm(some), number ** many)

    def test_one_less_a_root(self):
        for n in ALL[1:]:
            primes = plain_primes(n)
            some = sum_plus(root(n, 0), root(n, 1, -1))
            self.assertEqual(norm(some), primes[0] if len(primes) == 1 else 1)


class LeastWheel(Case):
    def test_told_ones(self):
        for some, told in (
            ([5], (1, [5])), ([0], (1, [0])), ([1, 2], (1, [-1])), ([0, 1, 0], (3, [0, 1, 0])), ([0, 1, 1], (1, [-1])),
            ([0, 0, 1], (3, [-1, -1, 0])), ([0, 1, 0, 0], (4, [0, 1, 0, 0])), ([3, 0, 4, 0], (1, [-1])),
            ([0, 1, 0, 1], (1, [0])), ([0, 1, 0, 0, 0, 0], (3, [1, 1, 0])), ([0, 0, 1, 0, 0, 0], (3, [0, 1, 0])),
            ([1, 0, 0, 2, 0, 0], (1, [-1])), ([0, 0, 0, 1, 0, 0, 0, 0, 0, 0, 0, 0], (4, [0, 1, 0, 0])),
            (KEPT[7], (1, [0])), (KEPT[9], (4, [0, 1, 0, 0])), (KEPT[11], (1, [0])),
        ):
            self.assertEqual(check_told(self, least_wheel, some), told, some)

    def check_least(self, some):
        n = len(some)
        told = check_told(self, least_wheel, some)
        self.assertEqual([type(told), len(told), type(told[0])], [tuple, 2, int])
        m, rest = told
        kept = plain_keepers(some)
        lies = [d for d in plain_parts(n) if all(k in kept for k in plain_units(n) if (k - 1) % d == 0)]
        self.assertEqual(m, lies[0])
        self.assertEqual(lies, [d for d in plain_parts(n) if d % m == 0])
        self.assertEqual(len(rest), m)
        self.check_rest(rest)
        self.check_same(spread(rest, n // m), some)
        return told

    def test_of_all_kinds(self):
        for n in ALL:
            for some in some_sums(n):
                told = self.check_least(some)
                self.assertEqual(self.check_least(with_wheels(some)), told)

    def test_spread_from_each_divisor(self):
        for n in ALL:
            for d in plain_parts(n):
                source = stream(n * d)
                for some in (root(d, 1), root(d, d - 1, -5), numbers_from(source, d, -GREAT, GREAT)):
                    told = self.check_least(some)
                    wide = spread(some, n // d)
                    self.assertEqual(least_wheel(wide), told)
                    self.assertEqual(least_wheel(with_wheels(wide)), told)

    def test_of_whole_numbers_and_noughts(self):
        for n in ALL:
            for number in (0, 1, -1, GREAT, -GREAT):
                for some in (root(n, 0, number), with_wheels(root(n, 0, number)), with_wheels(root(n, 0, number), 9)):
                    self.assertEqual(least_wheel(some), (1, [number]))

    def test_on_no_lesser_divisor(self):
        for n in ALL:
            if n % 4 != 2:
                for some in (root(n, 1), with_wheels(root(n, 1, 4)), sum_plus(root(n, 1), root(n, 0, 9))):
                    self.assertEqual(least_wheel(some)[0], n)


class LeastPoly(Case):
    def test_told_ones(self):
        for some, told in (
            ([5], [-5, 1]), ([0], [0, 1]), ([1, 2], [1, 1]), ([0, 1, 0], [1, 1, 1]), ([0, 1, 1], [1, 1]),
            ([0, 1, 0, 0], [1, 0, 1]), ([0, 1, 0, 1], [0, 1]), ([3, 4, 0, 0], [25, -6, 1]), ([0] * 30, [0, 1]),
            (KEPT[0], [-1, 1, 1]), (KEPT[2], [2, 1, 1]), (KEPT[3], [-1, -2, 1, 1]), (KEPT[5], [2, 0, 1]),
            (KEPT[6], [-2, 0, 1]), (KEPT[8], [1, -3, 0, 1]), (KEPT[10], [-3, 0, 1]), (KEPT[12], [1, -4, 1, 1]),
            ([2, 0, 0, 0, 0, 0, 0], [-2, 1]), ([GREAT, 0, 0, 1], [GREAT ** 2 + 1, -2 * GREAT, 1]),
        ):
            self.assertEqual(check_told(self, least_poly, some), told, some)
            check_judged(self, True, is_least_poly, some, told)

    def check_least(self, some):
        f = check_told(self, least_poly, some)
        many = len(set(plain_forms(some).values()))
        self.assertEqual((type(f), len(f), f[-1]), (list, many + 1, 1))
        self.assertEqual(len(f), len(round_of(some)) + 1)
        self.assertFalse(any(plain_number(value_at(f, some))))
        return f

    def test_of_all_kinds(self):
        for n in ALL:
            for some in some_sums(n):
                f = self.check_least(some)
                if n < 17:
                    self.assertEqual(least_poly(with_wheels(some)), f)

    def test_its_power_is_the_product_over_all_units(self):
        for n in (1, 2, 3, 5, 7, 8, 9, 12, 13, 15, 16):
            for some in some_sums(n):
                f, whole = least_poly(some), [1]
                for _ in keepers(some):
                    whole = plain_product(whole, f)
                self.assertEqual(whole, plain_char_poly(some))

    def test_of_single_roots(self):
        for n in ALL:
            for k in plain_units(n):
                self.assertEqual(least_poly(root(n, k)), root_poly(n))
            for d in plain_parts(n):
                self.assertEqual(least_poly(root(n, d)), root_poly(n // d))

    def test_of_whole_numbers_and_noughts(self):
        for n in ALL:
            for number in (0, 1, -2, GREAT, -GREAT):
                self.assertEqual(least_poly(root(n, 0, number)), [-number, 1])
                self.assertEqual(least_poly(with_wheels(root(n, 0, number))), [-number, 1])

    def test_at_the_bounds(self):
        for n in (29, 30, 31):
            some = [GREAT - j if j % 3 else -GREAT + j for j in range(n)]
            f = self.check_least(some)
            self.assertEqual((-f[-2], f[0] * (-1) ** (len(f) - 1)), (trace(some), norm(some)))
            check_judged(self, True, is_least_poly, some, f)
            check_judged(self, False, is_least_poly, some, [f[0] + 1] + f[1:])


class IsLeastPoly(Case):
    def some(self):
        return [some for n in (1, 2, 3, 4, 5, 6, 8, 12) for some in some_sums(n)] + [list(some) for some in KEPT]

    def test_the_least_one(self):
        for some in self.some():
            check_judged(self, True, is_least_poly, some, least_poly(some))
            check_judged(self, True, is_least_poly, with_wheels(some), least_poly(some))

    def test_a_number_changed(self):
        for some in self.some():
            f = least_poly(some)
            for at in range(len(f) - 1):
                for more in (1, -1, 2, GREAT, -GREAT ** 5):
                    check_judged(self, False, is_least_poly, some, f[:at] + [f[at] + more] + f[at + 1:])

    def test_its_products(self):
        for some in self.some():
            f = least_poly(some)
            for g in ([0, 1], [1, 1], [-1, 1], [1, 0, 1], f, [2], [-1], [GREAT]):
                check_judged(self, False, is_least_poly, some, plain_product(f, g))

    def test_of_other_counts(self):
        for some in self.some():
            f = least_poly(some)
            for other in ([1], [-1], [7], f[1:], [0] + f, f + [1], f[:-1] + [0, 1], [1] * 40, [GREAT ** 3] * 39 + [1]):
                check_judged(self, False, is_least_poly, some, other)

    def test_of_another_last_number(self):
        for some in self.some():
            f = least_poly(some)
            for last in (-1, 2, GREAT):
                check_judged(self, False, is_least_poly, some, f[:-1] + [last])
                check_judged(self, False, is_least_poly, some, [last * number for number in f])

    def test_of_other_sums(self):
        for some in self.some():
            f = least_poly(some)
            for other in self.some():
                if len(other) == len(some):
                    told = not any(plain_number(value_at(f, other)))
                    check_judged(self, told, is_least_poly, other, f)

    def test_of_a_sum_that_units_lead_there(self):
        for some in self.some():
            for k in plain_units(len(some)):
                check_judged(self, True, is_least_poly, led(some, k), least_poly(some))

    def test_of_a_root_among_more(self):
        # All of these come to nought at the sum, and are not the least.
        check_judged(self, False, is_least_poly, [0, 1, 0, 0], [-1, 0, 0, 0, 1])
        check_judged(self, False, is_least_poly, [0, 1, 0], [-1, 0, 0, 1])
        check_judged(self, False, is_least_poly, [0, 0, 1, 0], [-1, 0, 1])
        check_judged(self, False, is_least_poly, [3, 0, 0, 0, 0], plain_char_poly([3, 0, 0, 0, 0]))


if __name__ == "__main__":
    unittest.main()
