"""Stage 3: points 8 and 9, with 2, 3 and 4."""

import unittest
from copy import deepcopy

from rootwheel.roots import are_polys, root_poly, root_polys
from tests.helpers import (
    ODD_ONES, bent_ones, check_judged, check_told, plain_parts, plain_product, plain_root_poly,
)

TOLD = (
    (1, [(1, [-1, 1])]),
    (2, [(1, [-1, 1]), (2, [1, 1])]),
    (3, [(1, [-1, 1]), (3, [1, 1, 1])]),
    (4, [(1, [-1, 1]), (2, [1, 1]), (4, [1, 0, 1])]),
    (5, [(1, [-1, 1]), (5, [1, 1, 1, 1, 1])]),
    (6, [(1, [-1, 1]), (2, [1, 1]), (3, [1, 1, 1]), (6, [1, -1, 1])]),
    (8, [(1, [-1, 1]), (2, [1, 1]), (4, [1, 0, 1]), (8, [1, 0, 0, 0, 1])]),
    (9, [(1, [-1, 1]), (3, [1, 1, 1]), (9, [1, 0, 0, 1, 0, 0, 1])]),
    (10, [(1, [-1, 1]), (2, [1, 1]), (5, [1, 1, 1, 1, 1]), (10, [1, -1, 1, -1, 1])]),
    (12, [(1, [-1, 1]), (2, [1, 1]), (3, [1, 1, 1]), (4, [1, 0, 1]), (6, [1, -1, 1]), (12, [1, 0, -1, 0, 1])]),
)
LOOKED_AT = (1, 2, 3, 4, 6, 9, 12, 30, 60)


def product_of(polys):
    total = [1]
    for f in polys:
        total = plain_product(total, f)
    return total


class RootPolys(unittest.TestCase):
    def test_told_ones(self):
        for n, told in TOLD:
            self.assertEqual(check_told(self, root_polys, n), told)

    def test_products_come_to_the_powers_less_one(self):
        for n in (1, 2, 7, 31, 199, 16, 27, 49, 128, 15, 77, 30, 60, 105, 120, 165, 180, 210):
            rows = check_told(self, root_polys, n)
            self.assertEqual([d for d, _ in rows], plain_parts(n))
            for d, f in rows:
                self.assertNotEqual(f[-1], 0)
                whole = product_of([g for e, g in rows if d % e == 0])
                self.assertEqual(whole, [-1] + [0] * (d - 1) + [1], (n, d))

    def test_all_up_to_the_bound(self):
        for n in range(1, 211):
            rows = root_polys(n)
            self.assertEqual(rows, [(d, list(plain_root_poly(d))) for d in plain_parts(n)], n)

    def test_kinds_of_rows(self):
        for n in (1, 6, 60):
            rows = root_polys(n)
            self.assertIs(type(rows), list)
            for row in rows:
                self.assertEqual([type(row), len(row), type(row[0]), type(row[1])], [tuple, 2, int, list])

    def test_one_hundred_and_five(self):
        d, f = root_polys(105)[-1]
        self.assertEqual((d, len(f)), (105, 49))
        self.assertEqual([at for at, number in enumerate(f) if number not in (-1, 0, 1)], [7, 41])
        self.assertEqual([f[7], f[41]], [-2, -2])


class RootPoly(unittest.TestCase):
    def test_it_is_the_last_one(self):
        for n, told in TOLD:
            self.assertEqual(check_told(self, root_poly, n), told[-1][1])
        for n in (31, 49, 60, 105, 120, 210):
            self.assertEqual(root_poly(n), root_polys(n)[-1][1])

    def test_all_up_to_the_bound(self):
        for n in range(1, 421):
            self.assertEqual(root_poly(n), list(plain_root_poly(n)), n)

    def test_of_the_bound(self):
        f = check_told(self, root_poly, 420)
        self.assertEqual(len(f), 97)
        whole = product_of([root_poly(d) for d in plain_parts(420)])
        self.assertEqual(whole, [-1] + [0] * 419 + [1])

    def test_somewhat_beyond(self):
        self.assertEqual(root_poly(421), [1] * 421)


class ArePolys(unittest.TestCase):
    def check_not(self, n, thing):
        check_judged(self, False, are_polys, n, thing)

    def test_the_list_itself(self):
        for n, told in TOLD:
            check_judged(self, True, are_polys, n, told)
        for n in range(1, 211):
            self.assertIs(are_polys(n, [(d, list(plain_root_poly(d))) for d in plain_parts(n)]), True)
            self.assertIs(are_polys(n, root_polys(n)), True)

    def test_one_list_in_several_places(self):
        one, two = [-1, 1], [1, 1]
        self.assertIs(are_polys(2, [(1, one), (2, two)]), True)
        self.assertIs(are_polys(2, [(1, one), (2, one)]), False)
        self.assertIs(are_polys(2, [(1, two), (2, two)]), False)

    def test_each_thing_bent(self):
        for n in LOOKED_AT:
            for bent in bent_ones(root_polys(n)):
                self.check_not(n, bent)

    def test_bent_at_the_bound(self):
        rows = root_polys(210)
        for at in (0, 1, 7, 24, 47, 48):
            bent = deepcopy(rows)
            bent[-1][1][at] += 1
            self.check_not(210, bent)
            bent = deepcopy(rows)
            bent[-1][1][at] = True if rows[-1][1][at] == 1 else str(rows[-1][1][at])
            self.check_not(210, bent)
        self.check_not(210, rows[:-1])
        self.check_not(210, rows[1:])

    def test_signs_turned(self):
        for n in LOOKED_AT:
            rows = root_polys(n)
            for at in range(len(rows)):
                bent = deepcopy(rows)
                bent[at][1][:] = [-number for number in bent[at][1]]
                self.check_not(n, bent)
            self.check_not(n, [(d, [-number for number in f]) for d, f in rows])
            self.check_not(n, [(-d, f) for d, f in rows])

    def test_two_polynomials_exchanged(self):
        for n in LOOKED_AT:
            rows = root_polys(n)
            for i in range(len(rows)):
                for j in range(i):
                    bent = list(rows)
                    bent[i], bent[j] = (rows[i][0], rows[j][1]), (rows[j][0], rows[i][1])
                    self.check_not(n, bent)
                    bent[i], bent[j] = rows[j], rows[i]
                    self.check_not(n, bent)

    def test_truths_at_any_place(self):
        for n in LOOKED_AT:
            rows = root_polys(n)
            for at, (d, f) in enumerate(rows):
                for place, number in enumerate(f):
                    if number in (0, 1):
                        bent = f[:place] + [bool(number)] + f[place + 1:]
                        self.check_not(n, rows[:at] + [(d, bent)] + rows[at + 1:])
            self.check_not(n, [(True, rows[0][1])] + rows[1:])

    def test_other_kinds(self):
        for n in LOOKED_AT:
            rows = root_polys(n)
            self.check_not(n, tuple(rows))
            self.check_not(n, [list(row) for row in rows])
            self.check_not(n, [(d, tuple(f)) for d, f in rows])
            self.check_not(n, [(str(d), f) for d, f in rows])
            self.check_not(n, [(d, [f]) for d, f in rows])
            self.check_not(n, [d for d, _ in rows])
            self.check_not(n, [f for _, f in rows])
            self.check_not(n, [(d, f + [0]) for d, f in rows])
            self.check_not(n, [(d, f, d) for d, f in rows])
            for odd in ODD_ONES:
                self.check_not(n, odd)
                self.check_not(n, [odd] + rows[1:])
                self.check_not(n, [(1, odd)] + rows[1:])
                if odd != -1:
                    self.check_not(n, [(1, [odd, 1])] + rows[1:])

    def test_the_lists_of_others(self):
        for n in LOOKED_AT:
            for m in LOOKED_AT + (24, 120):
                check_judged(self, n == m, are_polys, n, root_polys(m))

    def test_deep_things(self):
        deep = 1
        for _ in range(50):
            deep = [deep]
        for n in (1, 6):
            self.check_not(n, deep)
            self.check_not(n, [(1, deep)] + root_polys(n)[1:])


if __name__ == "__main__":
    unittest.main()
