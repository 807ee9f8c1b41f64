"""Stage 6: points 19 and 20, with 2, 3 and 4."""

import unittest
from copy import deepcopy
from itertools import product as every

from rootwheel.errors import NoCrowds, NoPlain, NoPrime
from rootwheel.periods import crowds, is_table, periods, plain_wheels, table
from rootwheel.sums import spread, sum_plus, sum_times
from tests.helpers import (
    ODD_ONES, bent_ones, check_judged, check_told, numbers_from, plain_number, plain_parts, plain_primes, refusal,
    stream,
)

PRIMES = (3, 5, 7, 11, 13, 17, 19, 23, 29, 31, 37, 41, 43, 47, 53, 59, 61)
ASKED = [(p, e) for p in PRIMES for e in plain_parts(p - 1)]
SMALL = [(p, e) for p, e in ASKED if e <= 4]
NO_PRIMES = (2, 1, 0, -1, -3, -7, -61, 4, 8, 9, 15, 21, 25, 27, 49, 57, 121, 169, 341, 561, 645, 841, 961, -961)
GREAT = 10 ** 70 - 1


def plain_crowds(p, e):
    """The crowds, by looking at each two numbers."""
    powers = {pow(x, e, p) for x in range(1, p)}
    found = []
    for a in range(1, p):
        for crowd in found:
            if any(crowd[0] * power % p == a for power in powers):
                crowd.append(a)
                break
        else:
            found.append([a])
    return found


def together(rows, counts):
    """The sums, each so often, together."""
    return [sum(count * row[at] for row, count in zip(rows, counts)) for at in range(len(rows[0]))]


class Crowds(unittest.TestCase):
    def test_told_ones(self):
        for p, e, told in (
            (3, 1, [[1, 2]]), (3, 2, [[1], [2]]), (5, 1, [[1, 2, 3, 4]]), (5, 2, [[1, 4], [2, 3]]),
            (5, 4, [[1], [2], [3], [4]]), (7, 2, [[1, 2, 4], [3, 5, 6]]), (7, 3, [[1, 6], [2, 5], [3, 4]]),
            (7, 6, [[1], [2], [3], [4], [5], [6]]), (13, 4, [[1, 3, 9], [2, 5, 6], [4, 10, 12], [7, 8, 11]]),
            (13, 3, [[1, 5, 8, 12], [2, 3, 10, 11], [4, 6, 7, 9]]),
        ):
            self.assertEqual(check_told(self, crowds, p, e), told)

    def test_all_up_to_the_bound(self):
        for p, e in ASKED:
            told = crowds(p, e)
            self.assertEqual(told, plain_crowds(p, e), (p, e))
            self.assertEqual(len(told), e)
            self.assertEqual(sorted(sum(told, [])), list(range(1, p)))
            self.assertEqual([sorted(crowd) for crowd in told], told)
            self.assertEqual(sorted(told), told)

    def test_the_asker_may_change_them(self):
        for p, e in ((3, 1), (7, 2), (31, 5), (61, 60), (61, 1), (61, 12)):
            check_told(self, crowds, p, e)


class Periods(unittest.TestCase):
    def test_told_ones(self):
        for p, e, told in (
            (3, 1, [[0, 1, 1]]), (3, 2, [[0, 1, 0], [0, 0, 1]]), (5, 2, [[0, 1, 0, 0, 1], [0, 0, 1, 1, 0]]),
            (7, 2, [[0, 1, 1, 0, 1, 0, 0], [0, 0, 0, 1, 0, 1, 1]]),
        ):
            self.assertEqual(check_told(self, periods, p, e), told)

    def test_all_up_to_the_bound(self):
        for p, e in ASKED:
            told = periods(p, e)
            self.assertEqual(told, [[int(j in crowd) for j in range(p)] for crowd in plain_crowds(p, e)])
            self.assertEqual(plain_number(together(told, [1] * e)), plain_number([-1] + [0] * (p - 1)))

    def test_the_asker_may_change_them(self):
        for p, e in ((3, 1), (7, 3), (31, 6), (61, 60), (61, 1)):
            check_told(self, periods, p, e)


class Table(unittest.TestCase):
    def test_told_ones(self):
        for p, e, told in (
            (3, 1, [[-1]]), (61, 1, [[-1]]), (3, 2, [[0, 1], [-1, -1]]), (5, 2, [[-2, -1], [1, 1]]),
            (7, 2, [[1, 2], [-2, -2]]), (7, 3, [[-2, -1, -2], [1, 0, 1], [0, 1, 1]]),
            (5, 4, [[0, 1, 0, 0], [0, 0, 1, 0], [0, 0, 0, 1], [-1, -1, -1, -1]]),
        ):
            self.assertEqual(check_told(self, table, p, e), told)

    def test_products_of_all_up_to_the_bound(self):
        for p, e in ASKED:
            rows, told = periods(p, e), table(p, e)
            self.assertEqual((len(told), [len(row) for row in told]), (e, [e] * e))
            for one, counts in zip(rows, told):
                here = sum_times(rows[0], one)
                self.assertEqual(plain_number(here), plain_number(together(rows, counts)), (p, e))

    def test_somewhat_beyond(self):
        self.assertEqual(table(997, 1), [[-1]])
        self.assertEqual(table(101, 2), [[-26, -25], [25, 25]])

    def test_the_asker_may_change_it(self):
        for p, e in ((3, 1), (7, 3), (31, 6), (61, 60), (61, 2)):
            check_told(self, table, p, e)


class IsTable(unittest.TestCase):
    def check_not(self, p, e, thing):
        check_judged(self, False, is_table, p, e, thing)

    def test_the_table_itself(self):
        for p, e in ASKED:
            check_judged(self, True, is_table, p, e, table(p, e))

    def test_one_list_in_several_places(self):
        row = [-1]
        self.assertIs(is_table(3, 1, [row]), True)
        self.assertIs(is_table(7, 2, [row * 2, row * 2]), False)

    def test_each_thing_bent(self):
        for p, e in ((3, 1), (3, 2), (5, 2), (5, 4), (7, 2), (7, 3), (7, 6), (13, 3), (13, 4)):
            told = table(p, e)
            for bent in bent_ones(told):
                self.check_not(p, e, bent)

    def test_a_number_changed(self):
        for p, e in SMALL:
            told = table(p, e)
            for i, j in every(range(e), range(e)):
                for other in (told[i][j] + 1, told[i][j] - 1, told[i][j] + p, -told[i][j] - 1, GREAT, None, "", []):
                    bent = deepcopy(told)
                    bent[i][j] = other
                    self.check_not(p, e, bent)

    def test_truths_for_noughts_and_ones(self):
        for p, e in ASKED:
            told = table(p, e)
            places = [(i, j) for i, j in every(range(e), range(e)) if told[i][j] in (0, 1)]
            for i, j in places[:9] + places[-9:]:
                bent = deepcopy(told)
                bent[i][j] = bool(bent[i][j])
                self.check_not(p, e, bent)

    def test_lists_left_out_twice_and_exchanged(self):
        for p, e in ASKED:
            told = table(p, e)
            for at in {0, e // 2, e - 1}:
                self.check_not(p, e, told[:at] + told[at + 1:])
                self.check_not(p, e, told[:at] + [told[at]] + told[at:])
                self.check_not(p, e, told[:at] + [told[at][:-1]] + told[at + 1:])
                self.check_not(p, e, told[:at] + [told[at] + [0]] + told[at + 1:])
                self.check_not(p, e, told[:at] + [tuple(told[at])] + told[at + 1:])
            self.check_not(p, e, tuple(told))
            self.check_not(p, e, [tuple(row) for row in told])
            self.check_not(p, e, told + [[]])
            self.check_not(p, e, [told])
            self.check_not(p, e, sum(told, []))
            if e > 1:
                self.check_not(p, e, told[::-1])
                self.check_not(p, e, told[1:2] + told[:1] + told[2:])

    def test_lists_and_numbers_exchanged_alike(self):
        # The table, were the periods told in another order: the first one stays the first.
        for p, e in SMALL:
            told = table(p, e)
            for i in range(e):
                for j in range(i):
                    order = list(range(e))
                    order[i], order[j] = j, i
                    bent = [[told[row][at] for at in order] for row in order]
                    if bent != told:
                        self.check_not(p, e, bent)
                    self.check_not(p, e, [told[row] for row in order])
                    across = [[row[at] for at in order] for row in told]
                    if across != told:
                        self.check_not(p, e, across)

    def test_tables_of_others(self):
        for p, e in SMALL:
            for q, other in SMALL:
                if (p, e) != (q, other):
                    check_judged(self, table(q, other) == table(p, e), is_table, p, e, table(q, other))
        # Another prime with as many crowds has another table, but for one crowd.
        self.assertNotEqual(table(7, 2), table(11, 2))
        self.check_not(7, 2, table(11, 2))
        self.check_not(61, 60, table(31, 30))

    def test_things_of_all_kinds(self):
        for p, e in ((3, 1), (3, 2), (7, 2), (61, 1)):
            told = table(p, e)
            for odd in ODD_ONES:
                self.check_not(p, e, odd)
                self.check_not(p, e, [odd] + told[1:])
                if odd != told[0][0]:
                    self.check_not(p, e, [[odd] + told[0][1:]] + told[1:])

    def test_deep_things(self):
        deep = -1
        for _ in range(50):
            deep = [deep]
        self.check_not(3, 1, deep)
        self.check_not(3, 1, [deep])


class Refused(unittest.TestCase):
    def check(self, refused, p, e):
        for asked in (crowds, periods, table):
            self.assertIs(refusal(asked, p, e), refused, (asked.__name__, p, e))
        for thing in (None, [], [[-1]], [[0, 1], [-1, -1]], 7, "table", True, (), [[[]]]):
            self.assertIs(refusal(is_table, p, e, thing), refused, (p, e, thing))

    def test_no_odd_prime(self):
        for p in NO_PRIMES:
            for e in (1, 2):
                self.check(NoPrime, p, e)

    def test_all_to_the_bound(self):
        for p in range(-5, 962):
            if p < 3 or len(plain_parts(p)) != 2:
                self.assertIs(refusal(crowds, p, 1), NoPrime, p)
                self.assertIs(refusal(is_table, p, 1, []), NoPrime, p)
            elif p < 90:
                self.assertIsNone(refusal(crowds, p, 1), p)

    def test_no_divisor(self):
        for p in (3, 5, 7, 13, 31, 61):
            for e in (0, -1, -2, 1 - p, p, p + 1, 2 * (p - 1), 10 ** 40 - 1, -10 ** 39, 10 ** 39 * (p - 1)):
                self.check(NoCrowds, p, e)
            for e in range(1, p - 1):
                if (p - 1) % e != 0:
                    self.check(NoCrowds, p, e)

    def test_no_prime_goes_ahead(self):
        for p in NO_PRIMES:
            for e in (0, -1, 7919, 10 ** 39):
                self.check(NoPrime, p, e)


COUNTS = tuple(n for n in range(1, 61) if len(plain_primes(n)) <= 2)


def one_wheel(n, p, j, many=1):
    some = [0] * n
    for place in range(j, n, n // p):
        some[place] = many
    return some


def all_together(n, wheels):
    total = [0] * n
    for p, j, c in wheels:
        total = sum_plus(total, one_wheel(n, p, j, c))
    return total


def some_wheels(n, seed, great):
    keys = [(p, j) for p in plain_primes(n) for j in range(n // p)]
    counts = numbers_from(stream(seed + n), len(keys), -great, great)
    return [(p, j, max(c, 0)) for (p, j), c in zip(keys, counts)]


class PlainWheels(unittest.TestCase):
    def check_plain(self, some):
        """Wheels in a row, each from once on, that come to the sum."""
        n = len(some)
        told = plain_wheels(some)
        self.assertIs(type(told), list, some)
        keys = []
        for row in told:
            self.assertIs(type(row), tuple)
            p, j, c = row
            self.assertIn(p, plain_primes(n))
            self.assertIn(j, range(n // p))
            self.assertGreaterEqual(c, 1)
            keys.append((p, j))
        self.assertEqual(keys, sorted(set(keys)))
        self.assertEqual(all_together(n, told), some)

    def test_told_ones(self):
        for some, told in (
            ([0], []), ([0, 0], []), ([1, 1], [(2, 0, 1)]),
            ([0, 3, 0, 3], [(2, 1, 3)]), ([2, 2, 2], [(3, 0, 2)]), ([1, 0, 1, 0, 1, 0], [(3, 0, 1)]),
            ([1, 0, 0, 1, 0, 0], [(2, 0, 1)]), ([0] * 60 + [0], []),
        ):
            self.assertEqual(check_told(self, plain_wheels, some), told)
        for some in ([1], [10 ** 70 - 1], [1, 2], [1, 0], [1, 1, 0], [1, 0, 0, 0], [1, 0, 1, 1, 1, 0]):
            self.assertIsNone(plain_wheels(some))

    def test_of_noughts(self):
        for n in COUNTS:
            self.assertEqual(check_told(self, plain_wheels, [0] * n), [])

    def test_single_wheels(self):
        for n in COUNTS:
            for p in plain_primes(n):
                for j in range(n // p):
                    for many in (1, 2, GREAT):
                        told = plain_wheels(one_wheel(n, p, j, many))
                        self.assertEqual(told, [(p, j, many)])

    def test_several_wheels(self):
        for n in COUNTS:
            for great in (1, 3, 40, GREAT // 2):
                for seed in (1, 2, 3):
                    self.check_plain(all_together(n, some_wheels(n, seed, great)))

    def test_wheels_that_lie_on_one_another(self):
        for n in (6, 10, 12, 15, 18, 20, 24, 36, 45, 54, 55, 56, 57, 58):
            p, q = plain_primes(n)
            for i, j in every(range(n // p), range(n // q)):
                some = sum_plus(one_wheel(n, p, i, 2), one_wheel(n, q, j, 3))
                self.check_plain(some)
                check_told(self, plain_wheels, some)
        # Wheels of one prime alone leave something of these.
        self.assertEqual(plain_wheels([2, 0, 1, 1, 1, 0]), [(2, 0, 1), (3, 0, 1)])
        self.assertEqual(plain_wheels([5, 0, 3, 2, 3, 0]), [(2, 0, 2), (3, 0, 3)])

    def test_wheels_taken_away(self):
        # Nought, and no number below 0, but reached by taking a wheel away.
        for n in (6, 10, 12, 15, 45):
            p, q = plain_primes(n)
            step = n // (p * q)
            rows = [(p, j, 3) for j in range(0, n // p, step)] + [(q, 0, -3)]
            some = all_together(n, rows)
            self.assertEqual(min(some), 0)
            self.check_plain(some)
            rows = [(q, j, 3) for j in range(0, n // q, step)] + [(p, 0, -3)]
            self.check_plain(all_together(n, rows))

    def test_all_small_sums(self):
        for n, great in ((1, 9), (2, 5), (3, 4), (4, 3), (5, 2), (6, 3), (8, 1), (9, 1), (10, 1), (12, 1)):
            for numbers in every(range(great + 1), repeat=n):
                some = list(numbers)
                if any(plain_number(some)):
                    self.assertIsNone(plain_wheels(some), some)
                else:
                    self.check_plain(some)

    def test_sums_that_do_not_come_to_nought(self):
        for n in COUNTS:
            for great in (1, 9, GREAT // 2):
                some = all_together(n, some_wheels(n, 7, great))
                for at in {0, n // 2, n - 1}:
                    for many in (1, 2, GREAT // 9):
                        bent = list(some)
                        bent[at] += many
                        self.assertIs(plain_wheels(bent), None)

    def test_what_is_told_is_the_asker_own(self):
        for n in COUNTS:
            check_told(self, plain_wheels, all_together(n, some_wheels(n, 5, 6)))

    def test_of_what_spread_told(self):
        for n in (2, 6, 15):
            some = all_together(n, some_wheels(n, 5, 6))
            self.check_plain(spread(some, 4 if n < 15 else 3))

    def test_three_primes(self):
        for n in (30, 42, 60):
            for some in (
                [0] * n, [1] * n, [1] + [0] * (n - 1), one_wheel(n, 2, 0), one_wheel(n, 3, 1, GREAT), [-1] * n,
            ):
                self.assertIs(refusal(plain_wheels, some), NoPlain)

    def test_numbers_below_nought(self):
        for n in COUNTS:
            for at in {0, n // 2, n - 1}:
                some = [0] * n
                some[at] = -1
                self.assertIs(refusal(plain_wheels, some), NoPlain)
                some = [5] * n
                some[at] = -GREAT
                self.assertIs(refusal(plain_wheels, some), NoPlain)
            for p in plain_primes(n):
                self.assertIs(refusal(plain_wheels, one_wheel(n, p, n // p - 1, -1)), NoPlain)
        # It comes to nought, by a wheel taken away.
        self.assertIs(refusal(plain_wheels, all_together(6, [(2, 0, 1), (3, 0, -1)])), NoPlain)
        self.assertIs(refusal(plain_wheels, all_together(12, [(2, 0, 5), (2, 2, 5), (3, 0, -1)])), NoPlain)


if __name__ == "__main__":
    unittest.main()
