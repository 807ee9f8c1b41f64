"""Stage 10: points 29 to 33, with 2, 3 and 4."""

import unittest
from copy import deepcopy
from fractions import Fraction
from math import cos, gcd, pi

from rootwheel.cosines import (
    above, are_cosines, as_sum, by_cosine, cosine_poly, cosine_polys, doubled, folded, shows_cosine, unfolded,
)
from rootwheel.errors import NoCosine, NoFold
from rootwheel.leads import led
from rootwheel.polys import plus
from rootwheel.roots import root_poly
from rootwheel.sums import same, sum_plus, wheel
from tests.helpers import (
    ODD_ONES, bent_ones, check_judged, check_told, numbers_from, plain_number, plain_parts, plain_primes,
    plain_product, plain_root_poly, plain_units, refusal, stream,
)

GREAT = 10 ** 70 - 1
ALL = tuple(range(1, 61))
TOLD = (
    (1, [(1, [-2, 1])]), (2, [(1, [-2, 1]), (2, [2, 1])]), (3, [(1, [-2, 1]), (3, [1, 1])]),
    (4, [(1, [-2, 1]), (2, [2, 1]), (4, [0, 1])]), (5, [(1, [-2, 1]), (5, [-1, 1, 1])]),
    (7, [(1, [-2, 1]), (7, [-1, -2, 1, 1])]),
    (12, [(1, [-2, 1]), (2, [2, 1]), (3, [1, 1]), (4, [0, 1]), (6, [-1, 1]), (12, [-3, 0, 1])]),
)


def together(f, g):
    total = [0] * max(len(f), len(g))
    for row in (f, g):
        for at, number in enumerate(row):
            total[at] += number
    return total


def bare(f):
    """The numbers without noughts at the end."""
    many = max([at + 1 for at, number in enumerate(f) if number != 0], default=0)
    return f[:many]


def plain_unfolded(g):
    """g at z and 1 over z together, times a power of z, by each term's own product."""
    many = len(g) - 1
    total, power = [0] * (2 * many + 1) if g else [], [1]
    for at, number in enumerate(g):
        total = together(total, [0] * (many - at) + [number * part for part in power])
        power = plain_product(power, [1, 0, 1])
    return total


def plain_doubled(k):
    """The doubled polynomial, by how often each power of z and 1 over z stands in powers of x."""
    left, f = {k: 1, -k: 1} if k else {0: 2}, [0] * (k + 1)
    for high in range(k, -1, -1):
        number = f[high] = left.get(high, 0)
        part, at = 1, 0
        while at <= high:
            left[high - 2 * at] = left.get(high - 2 * at, 0) - number * part
            part, at = part * (high - at) // (at + 1), at + 1
    assert not any(left.values())
    return f


def mirror(some):
    """The sum and that to which the unit n less 1 leads it, together."""
    n = len(some)
    return [number + some[-place % n] for place, number in enumerate(some)]


def with_wheels(some, seed=3):
    """The same number otherwise: wheels are put to it."""
    n = len(some)
    source = stream(n + seed)
    for p in plain_primes(n):
        for j in range(n // p):
            many = next(source) % 9 - 4
            some = sum_plus(some, [many * number for number in wheel(n, p, j)])
    return some


def plain_laid(n, g):
    """g laid out round n, a power of x after the other."""
    total, power = [0] * n, [1] + [0] * (n - 1)
    for number in g:
        total = [have + number * part for have, part in zip(total, power)]
        power = [power[place - 1] + power[(place + 1) % n] for place in range(n)]
    return total


class Doubled(unittest.TestCase):
    def test_told_ones(self):
        for k, told in (
            (0, [2]), (1, [0, 1]), (2, [-2, 0, 1]), (3, [0, -3, 0, 1]), (4, [2, 0, -4, 0, 1]),
            (5, [0, 5, 0, -5, 0, 1]), (6, [-2, 0, 9, 0, -6, 0, 1]),
        ):
            self.assertEqual(check_told(self, doubled, k), told)

    def test_all_up_to_the_bound(self):
        for k in range(61):
            told = check_told(self, doubled, k)
            self.assertEqual(told, plain_doubled(k), k)
            # At z and 1 over z together, times z to the power k: the power 2 k and 1.
            self.assertEqual(plain_unfolded(told), [2] if k == 0 else [1] + [0] * (2 * k - 1) + [1])

    def test_somewhat_beyond(self):
        self.assertEqual(doubled(300), plain_doubled(300))


class Folded(unittest.TestCase):
    def some_polys(self):
        rows = [[], [1], [-GREAT], [0, 1], [0, 0, 5], [1, 1], [-2, 0, 1], [3, 0, 0, 0, -1], [1, -1, 1, -1]]
        for many in (1, 2, 3, 5, 8, 20, 60, 212):
            source = stream(many)
            rows.append(numbers_from(source, many - 1, -9, 9) + [1])
            rows.append(numbers_from(source, many, -GREAT, GREAT))
        return rows

    def test_told_ones(self):
        for f, g in (
            ([], []), ([5], [5]), ([-1], [-1]), ([1, 0, 1], [0, 1]), ([1, 1, 1], [1, 1]), ([1, 3, 1], [3, 1]),
            ([1, 0, 0, 0, 1], [-2, 0, 1]), ([1, 1, 1, 1, 1], [-1, 1, 1]), ([2, 0, 4, 0, 2], [0, 0, 2]),
            ([-1, 0, 0, 0, 0, 0, -1], [0, 3, 0, -1]), ([3, 2, 7, 2, 3], [1, 2, 3]),
        ):
            self.assertEqual(check_told(self, folded, f), g)
            self.assertEqual(check_told(self, unfolded, g), f)

    def test_back_and_forth(self):
        for g in self.some_polys():
            f = check_told(self, unfolded, g)
            self.assertEqual(f, plain_unfolded(g))
            self.assertEqual(len(f), 2 * len(g) - 1 if g else 0)
            self.assertEqual(check_told(self, folded, f), g)

    def test_palindromes(self):
        for many in (0, 1, 2, 3, 10, 60, 212):
            source = stream(many + 9)
            half = [1 + next(source) % 9] + numbers_from(source, many, -GREAT, GREAT)
            for f in (half + half[-2::-1], [half[0]] + [0] * (2 * many - 1) + [half[0]] if many else [7]):
                g = check_told(self, folded, f)
                self.assertEqual(len(g), many + 1)
                self.assertEqual(plain_unfolded(g), f)

    def test_polynomials_of_the_bound(self):
        g = numbers_from(stream(5), 424, -GREAT, GREAT) + [1]
        f = unfolded(g)
        self.assertEqual((len(f), f[0], f[-1]), (849, 1, 1))
        self.assertEqual(folded(f), g)

    def test_even_counts(self):
        for f in ([1, 1], [2, 2], [1, 0, 0, 1], [0, 1], [1] * 6, [1] * 424, [5, -5], [-1, 1], [1, 2, 2, 1]):
            self.assertIs(refusal(folded, f), NoFold)

    def test_other_from_behind(self):
        for f in (
            [0, 0, 1], [1, 0, -1], [-1, 0, 1], [1, 2, 3], [0, 1, 0, 0, 1], [1, 2, 3, 1, 1], [1, 0, 1, 2, 1],
            [GREAT, 0, GREAT - 1], [1] * 424 + [2], [1] * 100 + [2] + [1] * 102,
        ):
            self.assertEqual(len(f) % 2, 1)
            self.assertIs(refusal(folded, f), NoFold)
        for n in (4, 6, 10, 15, 20, 30):
            # A sign turned at any place but the middle.
            f = root_poly(n)
            for at in range(len(f)):
                bent = f[:at] + [f[at] + 7] + f[at + 1:]
                refused = None if at == len(f) // 2 else NoFold
                self.assertIs(refusal(folded, bent), refused)


class CosinePolys(unittest.TestCase):
    def test_told_ones(self):
        for n, told in TOLD:
            self.assertEqual(check_told(self, cosine_polys, n), told)
            self.assertEqual(check_told(self, cosine_poly, n), told[-1][1])

    def test_all_up_to_the_bound(self):
        for n in ALL:
            told = cosine_polys(n)
            self.assertIs(type(told), list)
            self.assertEqual([d for d, _ in told], plain_parts(n))
            for row in told:
                self.assertIs(type(row), tuple)
                self.assertEqual(row[1][-1], 1)
            product = [1]
            for d, f in told:
                for _ in range(1 if d < 3 else 2):
                    product = plain_product(product, f)
            self.assertEqual(product, bare(together(plain_doubled(n), [-2])), n)
            self.assertEqual(told[-1], (n, cosine_poly(n)))

    def test_they_are_the_root_polynomials_folded(self):
        for n in ALL[2:]:
            self.assertEqual(plain_unfolded(cosine_poly(n)), list(plain_root_poly(n)))
            self.assertEqual(cosine_poly(n), folded(root_poly(n)))

    def test_the_asker_may_change_them(self):
        for n in (1, 2, 3, 4, 5, 7, 12, 30, 60):
            check_told(self, cosine_polys, n)
            check_told(self, cosine_poly, n)


class AreCosines(unittest.TestCase):
    LOOKED_AT = (1, 2, 3, 4, 5, 6, 7, 12)

    def check_not(self, n, thing):
        check_judged(self, False, are_cosines, n, thing)

    def test_the_list_itself(self):
        for n in ALL:
            check_judged(self, True, are_cosines, n, cosine_polys(n))
        for n, told in TOLD:
            check_judged(self, True, are_cosines, n, told)

    def test_each_thing_bent(self):
        for n in self.LOOKED_AT:
            for bent in bent_ones(cosine_polys(n)):
                self.check_not(n, bent)

    def test_bent_at_the_bound(self):
        for n in (30, 60):
            rows = cosine_polys(n)
            for at, (d, f) in enumerate(rows):
                for place, number in enumerate(f):
                    for other in (number + 1, -number - 1, None, str(number), [number], 10 ** 40):
                        bent = deepcopy(rows)
                        bent[at][1][place] = other
                        self.check_not(n, bent)
                    if number in (0, 1):
                        bent = deepcopy(rows)
                        bent[at][1][place] = bool(number)
                        self.check_not(n, bent)
                self.check_not(n, rows[:at] + rows[at + 1:])
                self.check_not(n, rows[:at] + [rows[at]] + rows[at:])
                self.check_not(n, rows[:at] + [[d, f]] + rows[at + 1:])
                self.check_not(n, rows[:at] + [(d, tuple(f))] + rows[at + 1:])
                self.check_not(n, rows[:at] + [(d, f + [0])] + rows[at + 1:])
                self.check_not(n, rows[:at] + [(d, [-number for number in f])] + rows[at + 1:])
            self.check_not(n, rows[::-1])
            self.check_not(n, tuple(rows))

    def test_truths_and_signs(self):
        for n in self.LOOKED_AT:
            rows = cosine_polys(n)
            self.check_not(n, [(True, rows[0][1])] + rows[1:])
            self.check_not(n, [(-d, f) for d, f in rows])
            self.check_not(n, [(d, [-number for number in f]) for d, f in rows])
            self.check_not(n, [(d, [-2, True] if d == 1 else f) for d, f in rows])

    def test_two_polynomials_exchanged(self):
        for n in self.LOOKED_AT + (30,):
            rows = cosine_polys(n)
            for i in range(len(rows)):
                for j in range(i):
                    bent = list(rows)
                    bent[i], bent[j] = (rows[i][0], rows[j][1]), (rows[j][0], rows[i][1])
                    self.check_not(n, bent)
                    bent[i], bent[j] = rows[j], rows[i]
                    self.check_not(n, bent)

    def test_the_lists_of_others(self):
        for n in self.LOOKED_AT:
            for m in ALL:
                check_judged(self, n == m, are_cosines, n, cosine_polys(m))

    def test_things_of_all_kinds(self):
        deep = 1
        for _ in range(50):
            deep = [deep]
        for n in self.LOOKED_AT:
            rows = cosine_polys(n)
            for odd in ODD_ONES + (deep,):
                self.check_not(n, odd)
                self.check_not(n, [odd] + rows[1:])
                self.check_not(n, [(1, odd)] + rows[1:])
                self.check_not(n, [(1, [odd, 1])] + rows[1:])
            self.check_not(n, [f for _, f in rows])
            self.check_not(n, [(d, f, d) for d, f in rows])


class Laid(unittest.TestCase):
    def test_told_ones(self):
        for n, g, told in (
            (1, [], [0]), (1, [5], [5]), (1, [0, 1], [2]), (1, [1, 1, 1], [7]), (2, [], [0, 0]), (2, [-3], [-3, 0]),
            (2, [0, 1], [0, 2]), (2, [0, 0, 1], [4, 0]), (2, [1, 1], [1, 2]), (3, [0, 1], [0, 1, 1]),
            (3, [0, 0, 1], [2, 1, 1]), (4, [0, 1], [0, 1, 0, 1]), (4, [0, 0, 1], [2, 0, 2, 0]),
            (5, [7], [7, 0, 0, 0, 0]), (5, [0, 1], [0, 1, 0, 0, 1]), (5, [1, 0, -2], [-3, 0, -2, -2, 0]),
            (6, [0, 0, 0, 1], [0, 3, 0, 2, 0, 3]),
        ):
            self.assertEqual(check_told(self, as_sum, n, g), told)

    def test_all_up_to_the_bound(self):
        for n in ALL:
            source = stream(n)
            for g in ([], [0, 1], [-4], [0] * 30 + [1], numbers_from(source, 9, -5, 5) + [2]):
                self.assertEqual(as_sum(n, g), plain_laid(n, g))
            self.assertEqual(plain_number(as_sum(n, cosine_poly(n))), plain_number([0] * n))

    def test_great_ones(self):
        for n in (1, 2, 7, 60):
            g = numbers_from(stream(n), 424, -GREAT, GREAT) + [GREAT]
            self.assertEqual(check_told(self, as_sum, n, g), plain_laid(n, g))

    def test_the_doubled_ones(self):
        for n in ALL:
            for k in (0, 1, 2, n // 2, n - 1, n, n + 1, 60):
                some = [0] * n
                some[k % n] += 1
                some[-k % n] += 1
                self.assertEqual(as_sum(n, doubled(k)), some)


class ByCosine(unittest.TestCase):
    def kept_ones(self, n):
        source = stream(n + 3)
        rows = [[0] * n, [1] + [0] * (n - 1), [-GREAT] + [0] * (n - 1), [1] * n]
        rows += [mirror(numbers_from(source, n, -great, great)) for great in (1, 9, GREAT // 2)]
        rows += [plain_laid(n, [0, 1]), plain_laid(n, [3, -1, 4, 1])]
        return rows + [with_wheels(some) for some in rows]

    def test_told_ones(self):
        for some, told in (
            ([0], []), ([3], [3]), ([-7], [-7]), ([0, 0], []), ([1, 1], []), ([5, 2], [3]), ([0, 1], [-1]),
            ([0, 1, 1], [-1]), ([1, 1, 1], []), ([0, 1, 0, 1], []), ([0, 0, 1, 0], [-1]), ([2, 0, 1, 0], [1]),
            ([0, 1, 0, 0, 1], [0, 1]), ([0, 0, 1, 1, 0], [-1, -1]), ([1, 0, 2, 2, 0], [-1, -2]),
            ([0, 1, 0, 0, 0, 1], [1]), ([0, 1, 0, 0, 0, 0, 1], [0, 1]), ([0, 0, 1, 0, 0, 1, 0], [-2, 0, 1]),
            ([0, 0, 0, 1, 1, 0, 0], [1, -1, -1]), ([0, 1, 0, 0, 0, 0, 0, 1], [0, 1]),
        ):
            self.assertEqual(check_told(self, by_cosine, some), told, some)

    def test_all_up_to_the_bound(self):
        for n in ALL:
            for some in self.kept_ones(n):
                g = by_cosine(some)
                self.assertIs(type(g), list)
                self.assertLess(len(g), len(cosine_poly(n)))
                self.assertEqual(g, bare(g))
                laid = plain_laid(n, g)
                self.assertEqual(plain_number(laid), plain_number(some))
                self.assertTrue(same(as_sum(n, g), some))
                check_judged(self, True, shows_cosine, some, g)

    def test_sums_kept_as_numbers_alone(self):
        for some, told in (
            ([0, 0, 0, -1, -1], None), ([-1, 0, -1, -1, 0], [0, 1]), ([0, 2, 1, 1, 2], [-1, 1]),
            ([0, 1, 0, 0], None), ([3, 1, 1], [2]), ([0, 1, 2, 1, 0, 0], None), ([4, 1, 0, 1, 0, 1], [4]),
            ([4, 2, 0, 1, 0, 2], [5]), ([1, 5, 2, 5], [-1]), ([1, 5, 2, 6], None),
        ):
            if told is None:
                self.assertIs(refusal(by_cosine, some), NoCosine)
            else:
                self.assertEqual(by_cosine(some), told)
        # Not alike from both sides, and still the same number.
        for n in (6, 10, 12, 15, 30, 60):
            some = sum_plus(plain_laid(n, [0, 1]), wheel(n, plain_primes(n)[0], 1))
            self.assertNotEqual(some, led(some, n - 1))
            self.assertEqual(by_cosine(some), by_cosine(plain_laid(n, [0, 1])))

    def test_what_is_told_is_the_asker_own(self):
        for n in (1, 2, 3, 7, 12, 60):
            for some in self.kept_ones(n):
                check_told(self, by_cosine, some)

    def test_sums_that_have_none(self):
        for n in range(3, 61):
            source = stream(n + 4)
            root = [0, 1] + [0] * (n - 2)
            some = numbers_from(source, n, -GREAT, GREAT)
            for other in (root, with_wheels(root), some, sum_plus(mirror(some), root)):
                self.assertNotEqual(plain_number(other), plain_number(led(other, n - 1)))
                self.assertIs(refusal(by_cosine, other), NoCosine)
                for thing in ([], [0, 1], [1], cosine_poly(n), None, other, True):
                    check_judged(self, False, shows_cosine, other, thing)

    def test_the_judge_of_each_thing_bent(self):
        for some in (
            [0], [3], [1, 1], [5, 2], [0, 1, 1], [0, 1, 0, 0, 1], [1, 0, 2, 2, 0], [0, 0, 0, 1, 1, 0, 0],
            [1, 0, 0, 1, 0, 0, 0, 0, 0, 0, 1, 0, 0],
        ):
            some = mirror(some)
            for bent in bent_ones(by_cosine(some)):
                check_judged(self, False, shows_cosine, some, bent)

    def test_the_judge_of_other_polynomials(self):
        for n in ALL:
            for some in self.kept_ones(n)[4 + n % 3::6]:
                g = by_cosine(some)
                for bent in (
                    plus(g, cosine_poly(n)), plus(g, [1]), plus(g, [-1]), g + [0], [0] + g + [0], tuple(g), [g],
                    [str(number) for number in g] + [""], None, str(g), plus(g, [0, 1] if g != [0, -1] else [0, 2]),
                    plus(g, [0] * (len(cosine_poly(n)) - 1) + [3]), some + [1], (g,), g + [None],
                ):
                    check_judged(self, False, shows_cosine, some, bent)
                    self.assertNotEqual(bent, g)
                for at, number in enumerate(g):
                    if number in (0, 1):
                        check_judged(self, False, shows_cosine, some, g[:at] + [bool(number)] + g[at + 1:])

    def test_the_judge_of_things_of_all_kinds(self):
        for n in (1, 2, 3, 5, 12):
            for some in self.kept_ones(n):
                g = by_cosine(some)
                for odd in ODD_ONES:
                    right = repr(odd) == repr(g)
                    check_judged(self, right, shows_cosine, some, odd)
                    if repr(odd) != repr(g[-1:]):
                        check_judged(self, False, shows_cosine, some, [[odd]])


class Above(unittest.TestCase):
    FRACTIONS = (
        (0, 1), (1, 1), (-1, 1), (2, 1), (-2, 1), (3, 1), (-3, 1), (1, 2), (-1, 2), (3, 2), (-5, 4), (13, 7), (-13, 7),
        (4, 2), (-4, 2), (0, 9), (6, 6), (10 ** 13 - 1, 10 ** 13 - 2), (1 - 10 ** 13, 10 ** 13 - 1), (10 ** 13 - 1, 1),
        (-10 ** 12, 1), (1414213562373, 10 ** 12), (-1618033988749, 10 ** 12), (618033988750, 10 ** 12),
    )

    def plain_many(self, n, top, bottom):
        """How many cosines, doubled, are above the fraction; those that are whole numbers are written out."""
        found = 0
        for k in plain_units(n):
            if k <= n - k or n == 1:
                twice = Fraction(12 * k, n)
                whole = {0: 2, 12: 2, 2: 1, 10: 1, 3: 0, 9: 0, 4: -1, 8: -1, 6: -2}.get(twice)
                if whole is None:
                    found += 2 * cos(2 * pi * k / n) > top / bottom
                else:
                    found += whole * bottom > top
        return found

    def plain_row(self, n, top, bottom):
        """The row, each of its numbers by itself: from the value of each power of (root and top) over bottom."""
        f, many = cosine_poly(n), len(cosine_poly(n)) - 1
        total, power = [0] * (many + 1), [1]
        for at, number in enumerate(f):
            total = together(total, [number * bottom ** (many - at) * part for part in power])
            power = plain_product(power, [top, 1])
        return total

    def test_told_ones(self):
        for n, top, bottom, told in (
            (1, 0, 1, (1, [-2, 1])), (1, 2, 1, (0, [0, 1])), (1, 3, 1, (0, [1, 1])), (2, -2, 1, (0, [0, 1])),
            (2, -3, 1, (1, [-1, 1])), (2, 0, 1, (0, [2, 1])), (3, -1, 1, (0, [0, 1])), (3, -3, 2, (1, [-1, 1])),
            (4, 0, 1, (0, [0, 1])), (4, 0, 5, (0, [0, 1])), (5, 0, 1, (1, [-1, 1, 1])), (5, 1, 2, (1, [-1, 4, 1])),
            (5, -2, 1, (2, [1, -3, 1])), (5, 2, 1, (0, [5, 5, 1])), (7, 0, 1, (1, [-1, -2, 1, 1])),
            (12, 0, 1, (1, [-3, 0, 1])), (12, 2, 1, (0, [1, 4, 1])), (12, -2, 1, (2, [1, -4, 1])),
            (8, 0, 1, (1, [-2, 0, 1])), (5, 3, 3, (0, [9, 9, 1])), (5, 0, 3, (1, [-9, 3, 1])),
        ):
            self.assertEqual(check_told(self, above, n, top, bottom), told, (n, top, bottom))

    def test_all_up_to_the_bound(self):
        for n in ALL:
            for top, bottom in self.FRACTIONS:
                told = above(n, top, bottom)
                self.assertIs(type(told), tuple)
                many, row = told
                self.assertEqual(row, self.plain_row(n, top, bottom))
                self.assertEqual(row[-1], 1)
                self.assertIs(type(many), int)
                self.assertEqual(many, self.plain_many(n, top, bottom), (n, top, bottom))

    def test_beyond_all_roots(self):
        for n in ALL:
            size = len(cosine_poly(n)) - 1
            self.assertEqual(above(n, 2, 1)[0], 0)
            self.assertEqual(above(n, 21, 10)[0], 0)
            self.assertEqual(above(n, -21, 10)[0], size)
            self.assertEqual(above(n, -2, 1)[0], size if n != 2 else 0)

    def test_roots_themselves(self):
        for n, root in ((1, 2), (2, -2), (3, -1), (4, 0), (6, 1)):
            for bottom in (1, 2, 7, 10 ** 12):
                self.assertEqual(above(n, root * bottom, bottom), (0, [0, 1]))
                self.assertEqual(above(n, root * bottom - 1, bottom), (1, [-1, 1]))
                self.assertEqual(above(n, root * bottom + 1, bottom), (0, [1, 1]))

    def test_the_asker_may_change_it(self):
        for n in (1, 2, 5, 12, 60):
            check_told(self, above, n, -3, 7)

    def test_fractions_that_are_no_least_ones(self):
        for n in (5, 7, 12):
            for top, bottom in self.FRACTIONS:
                part = gcd(top, bottom)
                self.assertEqual(above(n, top, bottom)[0], above(n, top // part, bottom // part)[0])


if __name__ == "__main__":
    unittest.main()
