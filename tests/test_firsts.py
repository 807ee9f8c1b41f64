"""Stage 9: points 25 to 28, with 2, 3 and 4."""

import unittest
from copy import deepcopy
from functools import cache

from rootwheel.firsts import first_primes, left_of, prime_paper, shows_firsts, shows_prime
from tests.helpers import ODD_ONES, bent_ones, check_judged, check_told, plain_parts, plain_primes, plain_root_poly

BOUND = 10 ** 11
GREAT = 10 ** 40 - 1
# The least primes whose papers are one, two, and on to twelve deep.
DEEP_ONES = (2, 3, 7, 23, 47, 283, 719, 1439, 2879, 34549, 138197, 1266767)
PAPERED = (2, 3, 5, 7, 13, 17, 31, 257, 65537, 1000003, 1266767, 13999981)


def plain_value(a, n):
    return sum(number * a ** at for at, number in enumerate(plain_root_poly(n)))


@cache
def plain_parted(number):
    """The tuple of (q, times) of the primes of the number, by trying all from 2 on."""
    rows, left, q = [], number, 2
    while left > 1:
        q = left if q * q > left else q
        times = 0
        while left % q == 0:
            left, times = left // q, times + 1
        if times:
            rows.append((q, times))
        q += 1
    return tuple(rows)


def plain_order(a, q):
    k, power = 1, a % q
    while power != 1 % q:
        k, power = k + 1, power * a % q
    return k


def often(q, number):
    times = 0
    while number % q == 0:
        number, times = number // q, times + 1
    return times


@cache
def plain_firsts(a, n):
    """The rows of the first primes, by all that divide the power less one, each by its order."""
    found = {q for d in plain_parts(n) for q, _ in plain_parted(plain_value(a, d))}
    firsts = sorted(q for q in found if plain_order(a, q) == n)
    return tuple((q, often(q, a ** n - 1)) for q in firsts)


def greatest(n):
    """The greatest a by which the value at n is below the bound, up to some number of it."""
    low, high = 2, BOUND + 1
    while high - low > 1:
        middle = (low + high) // 2
        low, high = (middle, high) if plain_value(middle, n) < BOUND else (low, middle)
    return low


def is_whole(thing):
    return type(thing) is int


def plain_shows(q, paper):
    """Whether the paper is one of q, as point 27 has it, by other means than the program's."""
    if type(paper) is not tuple or len(paper) != 3:
        return False
    number, g, rows = paper
    if not is_whole(number) or number != q or not is_whole(g) or g not in range(1, q) or type(rows) is not list:
        return False
    for row in rows:
        if type(row) is not tuple or len(row) != 3 or not is_whole(row[0]) or not is_whole(row[1]):
            return False
    if tuple(row[:2] for row in rows) != plain_parted(q - 1) or pow(g, q - 1, q) != 1:
        return False
    return all(pow(g, (q - 1) // r, q) != 1 and plain_shows(r, part) for r, _, part in rows)


def some_asked():
    """Several a at each n to 24, the greatest within the bound too."""
    asked = []
    for n in range(1, 25):
        last = greatest(n)
        asked += [(a, n) for a in list(range(2, 14)) + [18, 31, 63, 127, 128, 1000, last] if a <= last]
    return asked


class FirstPrimes(unittest.TestCase):
    def test_none(self):
        self.assertEqual(check_told(self, first_primes, 2, 1), ("none", "one"))
        for a in (3, 7, 15, 31, 63, 127, 2 ** 20 - 1, 2 ** 36 - 1):
            self.assertEqual(check_told(self, first_primes, a, 2), ("none", "two"))
        self.assertEqual(check_told(self, first_primes, 2, 6), ("none", "six"))

    def test_told_ones(self):
        for a, n, rows in (
            (3, 1, [(2, 1)]), (4, 1, [(3, 1)]), (9, 1, [(2, 3)]), (1000, 1, [(3, 3), (37, 1)]), (2, 2, [(3, 1)]),
            (5, 2, [(3, 1)]), (8, 2, [(3, 2)]), (2, 3, [(7, 1)]), (3, 3, [(13, 1)]), (18, 3, [(7, 3)]),
            (3, 5, [(11, 2)]), (2, 4, [(5, 1)]), (2, 11, [(23, 1), (89, 1)]), (2, 12, [(13, 1)]), (3, 6, [(7, 1)]),
            (2, 18, [(19, 1)]), (2, 20, [(41, 1)]), (2, 21, [(337, 1)]), (5, 6, [(7, 1)]), (2, 24, [(241, 1)]),
            (10, 6, [(7, 1), (13, 1)]), (10, 11, [(21649, 1), (513239, 1)]), (10, 12, [(9901, 1)]),
        ):
            self.assertEqual(check_told(self, first_primes, a, n), ("primes", rows))

    def test_all_that_are_asked(self):
        for a, n in some_asked():
            rows = list(plain_firsts(a, n))
            told = first_primes(a, n)
            self.assertIs(type(told), tuple)
            if rows:
                self.assertEqual(told, ("primes", rows), (a, n))
                self.assertEqual([type(row) for row in told[1]], [tuple] * len(rows))
            else:
                why = {1: "one", 2: "two", 6: "six"}[n]
                self.assertEqual(told, ("none", why))
                right = a == 2 if n != 2 else a + 1 in [2 ** k for k in range(50)]
                self.assertTrue(right, (a, n))

    def test_all_small_ones_that_have_none(self):
        # In just the three cases.
        none = [(a, n) for n in range(1, 25) for a in range(2, 40)
                if plain_value(a, n) < BOUND and first_primes(a, n)[0] == "none"]
        self.assertEqual(none, [(2, 1), (3, 2), (7, 2), (15, 2), (31, 2), (2, 6)])

    def test_a_prime_near_the_bound(self):
        self.assertEqual(first_primes(99999999978, 1), ("primes", [(99999999977, 1)]))
        self.assertEqual(first_primes(99999999976, 2), ("primes", [(99999999977, 1)]))

    def test_the_asker_may_change_them(self):
        for a, n in some_asked()[::5]:
            check_told(self, first_primes, a, n)


class LeftOf(unittest.TestCase):
    def test_told_ones(self):
        for a, n, left in (
            (2, 1, 1), (9, 1, 1), (2, 2, 1), (3, 2, 4), (5, 2, 2), (7, 2, 8), (8, 2, 1), (127, 2, 128), (2, 6, 3),
            (4, 3, 3), (5, 6, 3), (2, 18, 3), (2, 20, 5), (2, 21, 7), (2, 12, 1), (3, 5, 1), (18, 3, 1), (7, 3, 3),
            (3, 4, 2), (2, 4, 1), (7, 8, 2), (4, 24, 1), (3, 6, 1), (2, 24, 1), (6, 5, 5), (11, 5, 5),
        ):
            self.assertEqual(check_told(self, left_of, a, n), left, (a, n))

    def test_all_that_are_asked(self):
        for a, n in some_asked():
            left = left_of(a, n)
            self.assertIs(type(left), int)
            product = left
            for q, times in plain_firsts(a, n):
                product *= q ** times
            self.assertEqual(product, plain_value(a, n))
            if n > 2:
                self.assertIn(left, (1, plain_primes(n)[-1]))
            else:
                self.assertIn(left, [2 ** k for k in range(50)] if n == 2 else [1])


class PrimePaper(unittest.TestCase):
    def test_told_ones(self):
        self.assertEqual(check_told(self, prime_paper, 2), (2, 1, []))
        self.assertEqual(check_told(self, prime_paper, 3), (3, 2, [(2, 1, (2, 1, []))]))

    def test_their_judge_lets_them_by(self):
        for q in [q for q in range(2, 2000) if len(plain_parted(q)) == 1 and plain_parted(q)[0][1] == 1]:
            paper = prime_paper(q)
            self.assertTrue(plain_shows(q, paper), q)
            self.assertIs(shows_prime(q, paper), True)
        for q in PAPERED + DEEP_ONES:
            paper = check_told(self, prime_paper, q)
            self.assertTrue(plain_shows(q, paper), q)
            check_judged(self, True, shows_prime, q, paper)

    def test_how_deep_they_are(self):
        for at, q in enumerate(DEEP_ONES):
            deep, paper = 0, [prime_paper(q)]
            while paper:
                deep, paper = deep + 1, [part for one in paper for _, _, part in one[2]]
            self.assertEqual(deep, at + 1)


class ShowsPrime(unittest.TestCase):
    def check(self, q, thing):
        """As told by other means; True and False are both met in the tests."""
        check_judged(self, plain_shows(q, thing), shows_prime, q, thing)

    def check_not(self, q, thing):
        check_judged(self, False, shows_prime, q, thing)

    def test_another_fitting_g(self):
        for q in (3, 5, 7, 13, 31, 257):
            rows, right = prime_paper(q)[2], 0
            for g in list(range(-q, 2 * q + 1)) + [GREAT, -GREAT]:
                self.check(q, (q, g, rows))
                right += shows_prime(q, (q, g, rows))
            # As many as units of q - 1.
            self.assertEqual(right, sum(1 for k in range(q - 1) if all(k % r for r in plain_primes(q - 1))))
        check_judged(self, True, shows_prime, 7, (7, 5, prime_paper(7)[2]))

    def test_each_thing_bent(self):
        for q in (2, 3, 5, 7, 13):
            for bent in bent_ones(prime_paper(q)):
                self.check(q, bent)

    def test_g_bent(self):
        for q in PAPERED:
            rows = prime_paper(q)[2]
            for g in (0, q, -1, q + 1, 1 - q, GREAT, -GREAT, None, "1", [1], True, False, ()):
                self.check_not(q, (q, g, rows))
            if q > 2:
                self.check_not(q, (q, 1, rows))
        # It leads round, but is no number below q.
        self.check_not(7, (7, 10, prime_paper(7)[2]))
        self.check_not(2, (2, 3, []))
        self.check_not(2, (2, True, []))

    def test_rows_bent(self):
        for q in PAPERED[1:]:
            number, g, rows = prime_paper(q)
            for at, (r, times, part) in enumerate(rows):
                ahead, behind = rows[:at], rows[at + 1:]
                for parts in (
                    [], [(r, times, part)] * 2, [[r, times, part]], [(r, times)], [(r, times, part, part)],
                    [(r, times, part, None)], [(times, r, part)], [(r, part, times)], [(r, part)], [r], [part], [None],
                    [(r, times, list(part))], [(r, times, [part])], [(r, times, None)], [(r, times, prime_paper(11))],
                    [(str(r), times, part)], [(r, str(times), part)], [(-r, times, part)], [(r, [times], part)],
                    [(r, 1, part)] * times if times > 1 else [(r, True, part)], [(r, times, ())], [(1, 1, part)],
                    [(r, times, part), (1, 1, part)], [(1, 1, (1, 1, [])), (r, times, part)], [(0, 1, part)],
                    [(r, 0, part), (r, times, part)], [(r, times, part), (q, 0, prime_paper(q))],
                    [(r, times, part), (q, 1, part)], [(r, times, part), (r, 1, part)], [(q - 1, 1, part)],
                ):
                    if parts != [(r, times, part)]:
                        self.check_not(q, (number, g, ahead + parts + behind))
                for other in (times + 1, times - 1, 0, -times, -1, GREAT, -GREAT, None, bool(times), q - 1):
                    if other is not times:
                        self.check_not(q, (number, g, ahead + [(r, other, part)] + behind))
            for other in (rows[::-1], rows + [(1, 1, (1, 1, []))], tuple(rows), [tuple(rows)], rows + rows, None, []):
                if repr(other) != repr(rows):
                    self.check_not(q, (number, g, other))
            for thing in ([number, g, rows], (number, g), (g, number, rows), (number, g, rows, rows), (number, rows)):
                self.check_not(q, thing)

    def test_rows_of_no_times(self):
        for q, other in ((7, 5), (13, 5), (13, 7), (31, 7), (11, 3), (11, 7), (3, 2), (257, 3)):
            number, g, rows = prime_paper(q)
            more = sorted([row for row in rows if row[0] != other] + [(other, 0, prime_paper(other))])
            for g in range(1, q):
                self.check_not(q, (number, g, more))

    def test_papers_of_others(self):
        for q in PAPERED:
            for other in PAPERED:
                check_judged(self, q == other, shows_prime, q, prime_paper(other))
                number, g, rows = prime_paper(q)
                if rows and other != rows[-1][0]:
                    r, times, _ = rows[-1]
                    self.check_not(q, (number, g, rows[:-1] + [(r, times, prime_paper(other))]))
            self.check_not(q, (q,) + prime_paper(257 if q != 257 else 13)[1:])

    def test_no_primes(self):
        for q in (-7, -2, -1, 0, 1, 4, 6, 8, 9, 10, 15, 25, 49, 91, 341, 561, 1105, 1729, 13 * 257, 10 ** 39):
            self.check_not(q, (q, 1, []))
            for near in (2, 3, 5, 7, 13, 257, 7919):
                self.check_not(q, prime_paper(near))
                self.check_not(q, (q,) + prime_paper(near)[1:])
            # The right rows, each with its right paper, and every g.
            rows = [(r, times, prime_paper(r)) for r, times in plain_parted(q - 1)] if 1 < q < 10 ** 6 else []
            for g in range(-1, min(q, 600) + 2):
                self.check_not(q, (q, g, rows))

    def test_a_row_that_is_no_prime(self):
        # By 17 and 3: all but the papers of 4, 16 and 8 would be in order.
        for q, r, times, part in (
            (17, 16, 1, (16, 3, [])), (17, 4, 2, (4, 3, [(3, 1, prime_paper(3))])), (5, 4, 1, (4, 2, [])),
            (257, 256, 1, (256, 3, [])), (7, 6, 1, (6, 5, [(5, 1, prime_paper(5))])),
        ):
            for g in range(1, q):
                self.check_not(q, (q, g, [(r, times, part)]))

    def test_great_numbers(self):
        # 10^39 + 3 is a prime; a paper of it may have no more than a right one.
        q = 10 ** 39 + 3
        for thing in ((q, 2, []), (q, 2, [(2, 1, (2, 1, []))]), (q, 2, [(2, GREAT, (2, 1, []))]), prime_paper(7)):
            self.check_not(q, thing)
        for great in (GREAT, 10 ** 4000):
            self.check_not(7, (7, 3, [(2, great, (2, 1, [])), (3, 1, prime_paper(3))]))
            self.check_not(7, (7, 3, [(2, 1, (2, 1, [])), (3, great, prime_paper(3))]))
            self.check_not(great, (great, 3, [(2, great, (2, 1, []))]))
            self.check_not(2, (2, 1, [(2, great, (2, 1, []))]))
            self.check_not(7, (7, 3, [(1, great, (2, 1, [])), (2, 1, (2, 1, [])), (3, 1, prime_paper(3))]))
            self.check_not(7, (7, 3, [(-1, great, ()), (0, great, ()), (2, 1, (2, 1, [])), (3, 1, prime_paper(3))]))

    def test_papers_of_great_primes(self):
        # 2^127 - 1 has thirty-nine figures.
        q = 2 ** 127 - 1
        primes = (
            (2, 1), (3, 3), (7, 2), (19, 1), (43, 1), (73, 1), (127, 1), (337, 1), (5419, 1), (92737, 1), (649657, 1),
            (77158673929, 1),
        )
        paper = (q, 43, [(r, times, prime_paper(r)) for r, times in primes])
        check_judged(self, True, shows_prime, q, paper)
        check_judged(self, False, shows_prime, q - 2, (q - 2,) + paper[1:])
        check_judged(self, False, shows_prime, q, paper[:2] + (paper[2][:-1],))

    def test_one_list_in_several_places(self):
        two = (2, 1, [])
        three = (3, 2, [(2, 1, two)])
        check_judged(self, True, shows_prime, 7, (7, 3, [(2, 1, two), (3, 1, three)]))

    def test_things_of_all_kinds(self):
        for q in (-1, 0, 1, 2, 3, 4, 7):
            _, g, rows = prime_paper(7)
            for odd in ODD_ONES:
                self.check_not(q, odd)
                self.check(q, (q, g, odd))
                self.check(q, (odd, g, rows))
                self.check_not(q, (q, g, [odd]))
                self.check_not(q, (q, g, [(2, 1, odd), rows[1]]))
                self.check(q, (q, g, [rows[0], (3, 1, odd)]))
        self.check_not(2, (2, 1, ()))

    def test_deep_things(self):
        paper = (2, 1, [])
        for _ in range(13):
            paper = (3, 2, [(2, 1, paper)])
        for q in (2, 3, 7):
            self.check_not(q, paper)


class ShowsFirsts(unittest.TestCase):
    ASKED = (
        (2, 1), (3, 1), (31, 1), (3, 2), (7, 2), (5, 2), (8, 2), (14, 2), (2, 6), (3, 5), (18, 3), (2, 11), (2, 12),
        (2, 18), (2, 20), (2, 21), (4, 3), (10, 6), (30, 4), (19, 6), (2, 24), (3, 24),
    )

    def papers(self, rows):
        return [prime_paper(q) for q, _ in rows]

    def check(self, a, n, rows, papers):
        """True just where the rows are those that are told, and each paper is one."""
        right = repr(rows) == repr(list(plain_firsts(a, n))) and type(papers) is list and len(papers) == len(rows)
        right = right and all(plain_shows(q, paper) for (q, _), paper in zip(rows, papers))
        check_judged(self, right, shows_firsts, a, n, rows, papers)

    def check_not(self, a, n, rows, papers):
        check_judged(self, False, shows_firsts, a, n, rows, papers)

    def test_rows_and_papers_themselves(self):
        for a, n in some_asked():
            rows = list(plain_firsts(a, n))
            if all(q < 14 * 10 ** 6 for q, _ in rows):
                check_judged(self, True, shows_firsts, a, n, rows, self.papers(rows))
                if rows:
                    self.check_not(a, n, [], [])

    def test_none(self):
        for a, n in ((2, 1), (3, 2), (7, 2), (31, 2), (2 ** 36 - 1, 2), (2, 6)):
            check_judged(self, True, shows_firsts, a, n, [], [])
            for rows in ([(3, 1)], [(2, 1)], [(2, 2)], [(1, 1)], [(5, 1)], [()], (), None, 0, False, "none"):
                self.check_not(a, n, rows, [prime_paper(3)])
                self.check_not(a, n, rows, [])
            for papers in ((), None, 0, False, "none", [()], [[]], [prime_paper(3)], {}):
                self.check_not(a, n, [], papers)
        for a, n in ((3, 1), (2, 2), (4, 2), (6, 2), (3, 6), (2, 3), (2, 4), (2, 12)):
            self.check_not(a, n, [], [])

    def test_each_thing_bent(self):
        for a, n in ((3, 2), (2, 3), (3, 5), (10, 6), (2, 20), (31, 1)):
            rows = list(plain_firsts(a, n))
            papers = self.papers(rows)
            for bent in bent_ones(rows):
                self.check(a, n, bent, papers)
            for bent in bent_ones(papers):
                self.check(a, n, rows, bent)

    def test_rows_bent(self):
        for a, n in self.ASKED:
            rows = list(plain_firsts(a, n))
            for at, (q, times) in enumerate(rows):
                ahead, behind = rows[:at], rows[at + 1:]
                for other in (times + 1, times - 1, 0, -times, GREAT, -GREAT, 10 ** 4000, None, True, str(times)):
                    self.check_not(a, n, ahead + [(q, other)] + behind, self.papers(rows))
                for parts in ([], [(q, times)] * 2, [(q, 1)] * (times + 1), [(2, 1), (q, times)]):
                    bent = ahead + parts + behind
                    self.check(a, n, bent, self.papers(bent))
                for row in ([q, times], (q,), (times, q), (q, times, prime_paper(q)), q, None, (q, times, 0)):
                    self.check_not(a, n, ahead + [row] + behind, self.papers(rows))
                for near in (2, 3, 5, 7, 11, 13, 17, 19, 31, 97):
                    bent = ahead + [(near, times)] + behind
                    self.check(a, n, bent, self.papers(bent))
                    bent = sorted(rows + [(near, 1)])
                    self.check(a, n, bent, self.papers(bent))
                for other in (q + 1, q - 1, -q, q * q, GREAT, 1, 0):
                    self.check_not(a, n, ahead + [(other, times)] + behind, self.papers(rows))
            if len(rows) > 1:
                self.check_not(a, n, rows[::-1], self.papers(rows[::-1]))
                self.check_not(a, n, rows[::-1], self.papers(rows))
            self.check_not(a, n, tuple(rows), self.papers(rows))

    def test_what_is_left_among_the_rows(self):
        for a, n, left in ((3, 2, [(2, 2)]), (5, 2, [(2, 1)]), (2, 6, [(3, 1)]), (4, 3, [(3, 1)]), (2, 20, [(5, 1)])):
            rows = sorted(list(plain_firsts(a, n)) + left)
            self.check_not(a, n, rows, self.papers(rows))

    def test_primes_of_other_n(self):
        for a, n in self.ASKED:
            for m in (1, 2, 3, 4, 6, 8, 12):
                rows = list(plain_firsts(a, m))
                if a ** m < BOUND:
                    self.check(a, n, rows, self.papers(rows))

    def test_papers_bent(self):
        for a, n in self.ASKED:
            rows = list(plain_firsts(a, n))
            papers = self.papers(rows)
            for bent in (
                papers + [prime_paper(2)], papers[:-1], papers + papers, tuple(papers), [papers], papers[::-1], None,
                [None] * len(rows), [[]] * len(rows), [()] * len(rows), [True] * len(rows), 5, "papers",
                [list(paper) for paper in papers], [prime_paper(3)] * len(rows), [(7, 3, [])] * len(rows),
                [(q, 1, []) for q, _ in rows],
            ):
                self.check(a, n, rows, bent)

    def test_rows_that_make_the_value_of_no_primes(self):
        # 2^11 - 1 in one piece, with a paper that would be right, were it a prime.
        for g in range(1, 60):
            paper = (2047, g, [(r, times, prime_paper(r)) for r, times in plain_parted(2046)])
            self.check_not(2, 11, [(2047, 1)], [paper])

    def test_another_fitting_paper(self):
        check_judged(self, True, shows_firsts, 2, 3, [(7, 1)], [(7, 5, prime_paper(7)[2])])
        check_judged(self, False, shows_firsts, 2, 3, [(7, 1)], [(7, 2, prime_paper(7)[2])])

    def test_things_of_all_kinds(self):
        for a, n in ((2, 1), (2, 3), (2, 6), (10, 6)):
            rows = list(plain_firsts(a, n))
            papers = self.papers(rows)
            for odd in deepcopy(ODD_ONES):
                self.check(a, n, odd, papers)
                self.check(a, n, rows, odd)
                self.check(a, n, odd, odd)
                self.check_not(a, n, [odd], [odd])

    def test_great_numbers(self):
        for a, n in ((2, 3), (2, 6), (2, 20)):
            for q in (GREAT, 10 ** 39 + 3, -GREAT):
                self.check_not(a, n, [(q, 1)], [(q, 2, [(2, GREAT, (2, 1, []))])])
                self.check_not(a, n, [(q, GREAT)], [(q, 2, [(2, 1, (2, 1, []))])])


if __name__ == "__main__":
    unittest.main()
