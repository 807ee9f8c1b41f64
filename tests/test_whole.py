"""Points 1 to 4 over the whole program: what was told stays, whatever is asked and done behind it."""

import unittest
from copy import deepcopy
from importlib import import_module

from rootwheel.cosines import by_cosine, cosine_polys, shows_cosine
from rootwheel.desk import Desk
from rootwheel.firsts import first_primes, prime_paper, shows_firsts, shows_prime
from rootwheel.leads import is_least_poly, least_poly
from rootwheel.periods import is_table, plain_wheels, table
from rootwheel.polys import minus, times, value
from rootwheel.roots import are_polys, root_poly, root_polys
from rootwheel.signs import sign_sum, square_of
from rootwheel.sums import come_to, ground, nought, same, shows_not, shows_nought, sum_plus, sum_times
from rootwheel.texts import read_paper, read_poly, read_told, show_paper, show_poly, show_told
from tests.helpers import bent_ones, leaves_in, lists_in, numbers_from, plain_number, plain_primes, spoil, stream
from tests.test_interface import LISTED

PAPER = (7, 3, [(2, 1, (2, 1, [])), (3, 1, (3, 2, [(2, 1, (2, 1, []))]))])
# For each listed function some questions that it answers.
QUESTIONS = {
    "divisors": [(60,), (61,)], "parted": [(360,)], "units": [(1,), (30,)], "sign": [(30,)], "order": [(2, 101)],
    "plus": [([1, 2], [3])], "minus": [([1, 2], [1])], "times": [([1, 2], [3, 4])], "over": [([1, 2, 3], [1, 1])],
    "value": [([1, 2], 3)], "at_power": [([1, 2], 3)], "root_polys": [(12,), (1,)], "root_poly": [(12,)],
    "are_polys": [(2, [(1, [-1, 1]), (2, [1, 1])]), (2, [[1]])], "sum_plus": [([1, 2], [3, 4])],
    "sum_times": [([1, 2], [3, 4])], "turned": [([1, 2, 3], 4)], "spread": [([1, 2], 3)], "ground": [(12,)],
    "wheel": [(6, 3, 1)], "come_to": [(6, [(2, 0, 1), (3, 1, -2)])], "grounded": [([1, 2, 3, 4, 5, 6],)],
    "nought": [([1, 1],), ([1, 2, 3, 4, 5, 6],)], "same": [([1, 0], [0, -1])],
    "shows_nought": [([1, 1], ("nought", [(2, 0, 1)]))], "shows_not": [([1, 0], ("not", [1, 0], []))],
    "led": [([1, 2, 3], 2)], "keepers": [([0, 1, 0, 0, 1],)], "round_of": [([0, 1, 0, 0, 1],)], "trace": [([1, 2, 3],)],
    "norm": [([1, 2, 3],)], "least_wheel": [([0, 0, 1, 0],)], "least_poly": [([0, 1, 0, 0, 1],)],
    "is_least_poly": [([0, 1, 0, 0, 1], [-1, 1, 1])], "crowds": [(7, 2), (13, 4)], "periods": [(7, 2)],
    "table": [(7, 3)], "is_table": [(3, 1, [[-1]])], "plain_wheels": [([2, 0, 1, 1, 1, 0],), ([0, 0],)],
    "parted_by_prime": [(7, 2), (12, 5)], "is_parted_by_prime": [(4, 2, [([1, 1], 2)])], "sign_by": [(3, 7)],
    "sign_sum": [(7,)], "square_of": [(7,)], "sign_power": [(5, 3)], "shows_sign": [(3, 5, (-1, [0, 2, -2]))],
    "first_primes": [(3, 5), (2, 6)], "left_of": [(2, 6)], "prime_paper": [(7,), (2,), (31,)],
    "shows_prime": [(7, PAPER)], "shows_firsts": [(2, 3, [(7, 1)], [PAPER])], "doubled": [(0,), (1,), (5,)],
    "folded": [([1, 2, 1],), ([],)], "unfolded": [([1, 2],), ([],)], "cosine_polys": [(12,)],
    "cosine_poly": [(1,), (2,), (7,)], "are_cosines": [(1, [(1, [-2, 1])])], "as_sum": [(5, [1, 2]), (1, [])],
    "by_cosine": [([0, 1, 0, 0, 1],), ([3],)], "shows_cosine": [([3], [3])], "above": [(7, 1, 2)],
    "show_poly": [([1, 2],)], "show_sum": [([1, 2],)], "show_wheels": [([(2, 0, 1)],)],
    "show_told": [(("not", [1, 0], [(2, 0, 1)]),)], "show_paper": [(PAPER,)], "show_rows": [([(7, 1), (13, 2)],)],
    "read_poly": [("x + 1",), ("0",)], "read_sum": [("4: -z",)], "read_wheels": [("1 of 2 at 0",), ("none",)],
    "read_told": [("not 2: 1 by none",)], "read_paper": [("(3 2 (2 1 (2 1)))",)], "read_rows": [("7 13^2",), ("none",)],
}


def all_questions():
    """The tuples (function, question) of all that is listed."""
    rows = []
    for name, functions in LISTED.items():
        module = import_module("rootwheel." + name)
        for told in functions:
            rows += [(getattr(module, told), question) for question in QUESTIONS[told]]
    return rows


class Told(unittest.TestCase):
    def test_every_listed_function_is_asked(self):
        self.assertEqual(sorted(QUESTIONS), sorted(told for functions in LISTED.values() for told in functions))

    def test_what_was_told_stays_while_others_are_asked_and_changed(self):
        rows = all_questions()
        asked = [deepcopy(question) for _, question in rows]
        told = [function(*question) for (function, _), question in zip(rows, asked)]
        first = deepcopy(told)
        for turn in (rows, rows[::-1]):
            for function, question in turn:
                args = deepcopy(question)
                spoil(function(*args))
                self.assertEqual(args, question, function.__name__)
                spoil(list(args))
        self.assertEqual(told, first)
        self.assertEqual([repr(one) for one in told], [repr(one) for one in first])
        self.assertEqual(asked, [question for _, question in rows])
        again = [function(*deepcopy(question)) for function, question in rows]
        self.assertEqual(again, first)

    def test_no_list_stands_in_two_told_things(self):
        rows = all_questions()
        asked = [deepcopy(question) for _, question in rows]
        told = [[function(*question) for _ in range(2)] for (function, _), question in zip(rows, asked)]
        lists = [row for pair in told for one in pair for row in lists_in(one)]
        handed = lists_in(asked)
        self.assertEqual(len({id(row) for row in lists}), len(lists))
        self.assertEqual({id(row) for row in lists} & {id(row) for row in handed}, set())

    def test_numbers_are_no_truths_and_truths_no_numbers(self):
        for function, question in all_questions():
            told = function(*deepcopy(question))
            name = function.__name__
            judge = name == "same" or name.split("_")[0] in ("is", "are", "shows")
            if judge:
                self.assertIs(type(told), bool, name)
                self.assertIs(told, name != "are_polys" or question[1] != [[1]])
            else:
                self.assertLessEqual({type(leaf) for leaf in leaves_in(told)}, {int, str}, name)

    def test_a_desk_beside_them(self):
        desk = Desk()
        for row in ("wheel 6", "sum a 6: 1 + z", "spread 2", "lead b a 5"):
            desk.say(row)
        asked = ("show a", "show b", "told a", "paper 7", "firsts 3 5", "size")
        told = [desk.say(row) for row in asked]
        for function, question in all_questions():
            spoil(function(*deepcopy(question)))
        self.assertEqual([desk.say(row) for row in asked], told)

    def test_what_was_told_may_be_handed_in_again(self):
        some = numbers_from(stream(4), 12, -9, 9)
        told = nought(some)
        self.assertEqual(read_told(show_told(told)), told)
        self.assertIs(shows_not(some, told), True)
        self.assertEqual(sum_plus(told[1], come_to(12, told[2])), some)
        self.assertIs(are_polys(60, root_polys(60)), True)
        self.assertIs(is_table(61, 4, table(61, 4)), True)
        self.assertIs(shows_prime(13999981, read_paper(show_paper(prime_paper(13999981)))), True)


class Whole(unittest.TestCase):
    def test_just_one_is_told_of_each_sum(self):
        for n in (1, 2, 3, 4, 6, 8, 9, 12, 15, 30, 42, 60, 61):
            source = stream(n + 77)
            for some in ([0] * n, [1] * n, numbers_from(source, n, -1, 1), numbers_from(source, n, -9, 9)):
                told = nought(some)
                comes = not any(plain_number(some))
                self.assertEqual(told[0], "nought" if comes else "not")
                self.assertIs(shows_nought(some, told), comes)
                self.assertIs(shows_not(some, told), not comes)
                self.assertIs(shows_nought(some, ("nought", told[-1])), comes)
                if not comes:
                    # Each number has one form alone, on the ground.
                    rest = told[1]
                    self.assertEqual([j for j in range(n) if rest[j] != 0 and j not in ground(n)], [])
                    other = sum_plus(some, come_to(n, [(p, n // p - 1, 5) for p in plain_primes(n)]))
                    self.assertEqual(nought(other)[1], rest)
                    self.assertIs(same(some, other), True)

    def test_all_root_polynomials_make_the_powers_of_x_less_one(self):
        for n in range(1, 61):
            product = [1]
            for _, f in root_polys(n):
                product = times(product, f)
            self.assertEqual(product, [-1] + [0] * (n - 1) + [1])

    def test_the_stages_hang_together(self):
        # The first primes, by the value of the root polynomial, each with its paper.
        for a, n in ((2, 11), (3, 5), (10, 12), (2, 6), (3, 2), (2, 1)):
            told = first_primes(a, n)
            rows = told[1] if told[0] == "primes" else []
            self.assertIs(shows_firsts(a, n, rows, [prime_paper(q) for q, _ in rows]), True)
            for q, times_told in rows:
                self.assertEqual(value(root_poly(n), a) % q ** times_told, 0)
        # The sign sum's square is a number, by its least polynomial and by its cosine, where there is one.
        for p in (3, 5, 7, 11, 13):
            some, number, _ = square_of(p)
            self.assertEqual(some, sign_sum(p))
            self.assertEqual(least_poly(some), [-number, 0, 1])
            self.assertEqual(least_poly(sum_times(some, some)), [-number, 1])
            self.assertIs(is_least_poly(some, read_poly(show_poly([-number, 0, 1]))), True)
        for n in range(3, 31):
            some = [0, 1] + [0] * (n - 2)
            some[n - 1] += 1
            f = cosine_polys(n)[-1][1]
            self.assertEqual(least_poly(some), f)
            # x itself, but where x is a number.
            self.assertEqual(by_cosine(some), [0, 1] if len(f) > 2 else [part for part in [-f[0]] if part != 0])
            self.assertIs(shows_cosine(some, by_cosine(some)), True)
        # A sum of roots, none of them taken away, that comes to nought is made of plain wheels.
        for n in (6, 12, 15):
            some = come_to(n, [(p, 1, 3) for p in plain_primes(n)])
            self.assertEqual(nought(some)[0], "nought")
            self.assertEqual(minus(come_to(n, plain_wheels(some)), some), [])

    def test_judges_of_bent_things_over_the_program(self):
        for judge, right in (
            (lambda thing: shows_nought([1, 1, 1], thing), ("nought", [(3, 0, 1)])),
            (lambda thing: are_polys(3, thing), root_polys(3)), (lambda thing: is_table(5, 2, thing), table(5, 2)),
            (lambda thing: shows_cosine([0, 1, 0, 0, 1], thing), [0, 1]),
            (lambda thing: shows_firsts(2, 3, thing, [PAPER]), [(7, 1)]),
        ):
            self.assertIs(judge(right), True)
            for bent in bent_ones(right):
                self.assertIs(judge(bent), False, bent)


if __name__ == "__main__":
    unittest.main()
