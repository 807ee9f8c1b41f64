"""Stage 2: point 7, with 2 and 3."""

import unittest

from rootwheel.errors import NoPart
from rootwheel.polys import at_power, minus, over, plus, times, value
from tests.helpers import check_told, refusal

GREAT = 10 ** 70 - 1
# Of all kinds: nought, numbers, unlike lengths, noughts within, great ones, below 0, last number 1.
SOME = (
    [], [1], [-1], [5], [0, 1], [-1, 1], [1, 1], [0, -1], [3, 0, -2], [0, 0, 0, 1], [1, 0, -1, 3],
    [-4, 7, 1], [GREAT], [1, -GREAT, GREAT], [-GREAT, 0, 1], [2, -3, 5, -7, 11, 1],
)
NUMBERS = (0, 1, -1, 2, -2, 3, -7, 10, 10 ** 39 + 7, -(10 ** 40 - 1))


def long_one(many, seed):
    """A polynomial of so many numbers of up to seventy figures, the last one 1."""
    numbers = []
    for at in range(many - 1):
        seed = (seed * 6364136223846793005 + at) % GREAT
        numbers.append(seed if at % 3 else -seed)
    return numbers + [1]


def plain_value(f, number):
    return sum(part * number ** at for at, part in enumerate(f))


def plain_times(f, g):
    """By the places of the product, each one's number looked up in both."""
    many = len(f) + len(g) - 1 if f and g else 0
    return [
        sum(f[i] * g[at - i] for i in range(len(f)) if 0 <= at - i < len(g))
        for at in range(many)
    ]


class Case(unittest.TestCase):
    def check_poly(self, f):
        self.assertIs(type(f), list)
        self.assertTrue(f == [] or f[-1] != 0, f)


class Plus(Case):
    def test_told_ones(self):
        for f, g, told in (
            ([], [], []), ([], [3, 1], [3, 1]), ([3, 1], [], [3, 1]), ([5], [-5], []), ([5], [2], [7]),
            ([1, 2, 3], [4], [5, 2, 3]), ([4], [1, 2, 3], [5, 2, 3]), ([1, 2, 3], [1, 2, -3], [2, 4]),
            ([1, 2, 3], [0, -2, -3], [1]), ([1, 2, 3], [-1, -2, -3], []), ([0, 0, 1], [0, 0, -1], []),
            ([0, 0, 4, 1], [7, 0, 0, -1], [7, 0, 4]), ([-1, 1], [1, 1], [0, 2]),
            ([GREAT, 1], [1, GREAT], [10 ** 70, 10 ** 70]), ([1, GREAT], [0, -GREAT], [1]),
        ):
            self.assertEqual(check_told(self, plus, f, g), told)

    def test_of_all_kinds(self):
        for f in SOME:
            for g in SOME:
                told = check_told(self, plus, f, g)
                self.check_poly(told)
                self.assertEqual(told, plus(g, f))
                for number in NUMBERS:
                    self.assertEqual(plain_value(told, number), plain_value(f, number) + plain_value(g, number))

    def test_the_very_same_list_twice(self):
        for f in SOME:
            self.assertEqual(plus(f, f), [2 * number for number in f])

    def test_long_ones(self):
        f, g = long_one(425, 11), long_one(425, 12)
        self.assertEqual(check_told(self, plus, f, g), [a + b for a, b in zip(f, g)])


class Minus(Case):
    def test_told_ones(self):
        for f, g, told in (
            ([], [], []), ([], [3, 1], [-3, -1]), ([3, 1], [], [3, 1]), ([5], [5], []), ([5], [2], [3]),
            ([2], [5], [-3]), ([1, 2, 3], [4], [-3, 2, 3]), ([4], [1, 2, 3], [3, -2, -3]),
            ([1, 2, 3], [2, 2, 3], [-1]), ([0, 1, 1], [0, 1, 1], []), ([1, 5, 0, 2], [1, 5, 1, 2], [0, 0, -1]),
            ([-1, 1], [1, 1], [-2]), ([GREAT], [-GREAT], [2 * GREAT]), ([1, GREAT], [0, GREAT], [1]),
        ):
            self.assertEqual(check_told(self, minus, f, g), told)

    def test_of_all_kinds(self):
        for f in SOME:
            for g in SOME:
                told = check_told(self, minus, f, g)
                self.check_poly(told)
                for number in NUMBERS:
                    self.assertEqual(plain_value(told, number), plain_value(f, number) - plain_value(g, number))

    def test_the_very_same_list_twice(self):
        for f in SOME:
            self.assertEqual(minus(f, f), [])

    def test_long_ones(self):
        f = long_one(425, 13)
        self.assertEqual(minus(f, f[:-1] + [2]), [0] * 424 + [-1])
        self.assertEqual(minus([7] + f[1:], f), [7 - f[0]])


class Times(Case):
    def test_told_ones(self):
        for f, g, told in (
            ([], [], []), ([], [3, 1], []), ([3, 1], [], []), ([1], [3, 1], [3, 1]), ([3, 1], [1], [3, 1]),
            ([2], [5], [10]), ([-2], [3, 0, 1], [-6, 0, -2]), ([0, 1], [3, 1], [0, 3, 1]),
            ([-1, 1], [1, 1], [-1, 0, 1]), ([1, 1, 1], [-1, 1], [-1, 0, 0, 1]),
            ([1, 2], [3, 4, 5], [3, 10, 13, 10]), ([GREAT], [GREAT], [GREAT * GREAT]),
            ([-GREAT, 1], [GREAT, 1], [-GREAT * GREAT, 0, 1]),
        ):
            self.assertEqual(check_told(self, times, f, g), told)

    def test_of_all_kinds(self):
        for f in SOME:
            for g in SOME:
                told = check_told(self, times, f, g)
                self.check_poly(told)
                self.assertEqual(told, plain_times(f, g))
                for number in NUMBERS:
                    self.assertEqual(plain_value(told, number), plain_value(f, number) * plain_value(g, number))

    def test_the_very_same_list_twice(self):
        for f in SOME:
            before = list(f)
            self.assertEqual(times(f, f), plain_times(before, before))
            self.assertEqual(f, before)

    def test_long_ones(self):
        f, g = long_one(213, 14), long_one(212, 15)
        self.assertEqual(check_told(self, times, f, g), plain_times(f, g))


class Over(Case):
    def check_parted(self, f, g):
        """What is told of f by g is the one pair with f being q times g and r."""
        told = check_told(self, over, f, g)
        self.assertIs(type(told), tuple)
        q, r = told
        self.check_poly(q)
        self.check_poly(r)
        self.assertLess(len(r), len(g))
        self.assertEqual(plus(plain_times(q, g), r), f)
        return told

    def test_told_ones(self):
        for f, g, told in (
            ([], [1], ([], [])), ([], [5, 1], ([], [])), ([7], [1], ([7], [])), ([7], [5, 1], ([], [7])),
            ([3, 0, -2], [1], ([3, 0, -2], [])), ([-1, 0, 1], [-1, 1], ([1, 1], [])),
            ([-1, 0, 0, 1], [-1, 1], ([1, 1, 1], [])), ([1, 0, 0, 1], [-1, 1], ([1, 1, 1], [2])),
            ([1, 2, 3], [0, 1], ([2, 3], [1])), ([0, 0, 3], [0, 1], ([0, 3], [])),
            ([1, 2], [1, 2, 1], ([], [1, 2])), ([5, 2, 0, 1], [1, 0, 1], ([0, 1], [5, 1])),
            ([5, 1, 0, 1], [1, 0, 1], ([0, 1], [5])), ([-6, 0, -2], [3, 0, 1], ([-2], [])),
            ([-1] + [0] * 11 + [1], [1, 0, -1, 0, 1], ([-1, 0, -1, 0, 0, 0, 1, 0, 1], [])),
            ([GREAT * GREAT, 2 * GREAT, 1], [GREAT, 1], ([GREAT, 1], [])),
        ):
            self.assertEqual(check_told(self, over, f, g), told)
            self.assertEqual(self.check_parted(f, g), told)

    def test_of_all_kinds(self):
        for f in SOME:
            for g in SOME:
                if g and g[-1] == 1:
                    self.check_parted(f, g)
                else:
                    self.assertIs(refusal(over, f, g), NoPart, (f, g))

    def test_by_the_number_one(self):
        for f in SOME:
            self.assertEqual(self.check_parted(f, [1]), (f, []))

    def test_by_a_longer_one(self):
        for f in SOME:
            self.assertEqual(self.check_parted(f, [2] * len(f) + [1]), ([], f))

    def test_by_itself(self):
        for f in SOME:
            if f and f[-1] == 1:
                self.assertEqual(self.check_parted(f, f), ([1], []))
                before = list(f)
                self.assertEqual(over(f, f), ([1], []))
                self.assertEqual(f, before)

    def test_no_part(self):
        for g in ([], [-1], [2], [1, -1], [1, 1, -1], [1, 0, 3], [1, 2], [GREAT], [1, 1, 1, 1, 1, -1]):
            for f in ([], [1], g, [4, 4], [2, 4], [-1, 0, 1], plain_times(g, [1, 2, 3])):
                self.assertIs(refusal(over, f, g), NoPart, (f, g))

    def test_long_ones(self):
        q, g, r = long_one(213, 16), long_one(213, 17), long_one(210, 18)
        f = plus(plain_times(q, g), r)
        self.assertEqual(len(f), 425)
        self.assertEqual(check_told(self, over, f, g), (q, r))
        self.assertEqual(over(long_one(425, 19), long_one(425, 19)), ([1], []))

    def test_by_a_short_one_at_the_bounds(self):
        f = long_one(425, 20)
        q, r = over(f, [-3, 1])
        self.assertEqual((len(q), r), (424, [plain_value(f, 3)]))
        self.assertEqual(plus(plain_times(q, [-3, 1]), r), f)


class Value(Case):
    def test_told_ones(self):
        for f, number, told in (
            ([], 0, 0), ([], 5, 0), ([], -10 ** 39, 0), ([7], 0, 7), ([7], 9, 7), ([7], -9, 7), ([-7], 1, -7),
            ([0, 1], 5, 5), ([0, 1], -5, -5), ([1, 0, -1, 3], 0, 1), ([1, 0, -1, 3], 1, 3),
            ([1, 0, -1, 3], -1, -3), ([1, 0, -1, 3], 2, 21), ([1, 0, -1, 3], -2, -27),
            ([4, 3, 2, 1], 10, 1234), ([4, 3, 2, 1], -10, -826),
        ):
            self.assertEqual(check_told(self, value, f, number), told)

    def test_of_all_kinds(self):
        for f in SOME:
            for number in NUMBERS:
                self.assertEqual(check_told(self, value, f, number), plain_value(f, number))

    def test_long_ones(self):
        f = long_one(425, 21)
        for number in NUMBERS:
            self.assertEqual(check_told(self, value, f, number), plain_value(f, number))


class AtPower(Case):
    def test_told_ones(self):
        for f, k, told in (
            ([], 1, []), ([], 2, []), ([], 7, []), ([5], 1, [5]), ([5], 7, [5]), ([0, 1], 1, [0, 1]),
            ([0, 1], 3, [0, 0, 0, 1]), ([1, 2, 3], 1, [1, 2, 3]), ([1, 2, 3], 2, [1, 0, 2, 0, 3]),
            ([1, 2, 3], 3, [1, 0, 0, 2, 0, 0, 3]), ([-1, 1], 7, [-1, 0, 0, 0, 0, 0, 0, 1]),
            ([1, 0, 0, -4], 2, [1, 0, 0, 0, 0, 0, -4]), ([GREAT, -GREAT], 2, [GREAT, 0, -GREAT]),
        ):
            self.assertEqual(check_told(self, at_power, f, k), told)

    def test_of_all_kinds(self):
        for f in SOME:
            for k in range(1, 8):
                told = check_told(self, at_power, f, k)
                self.check_poly(told)
                self.assertEqual(len(told), (len(f) - 1) * k + 1 if f else 0)
                for number in NUMBERS:
                    self.assertEqual(plain_value(told, number), plain_value(f, number ** k))

    def test_long_ones(self):
        f = long_one(425, 22)
        for k in (1, 2, 7):
            told = check_told(self, at_power, f, k)
            self.assertEqual(told[::k], f)
            self.assertEqual(len(told), 424 * k + 1)
            self.assertEqual(sum(1 for number in told if number != 0), sum(1 for number in f if number != 0))


if __name__ == "__main__":
    unittest.main()
