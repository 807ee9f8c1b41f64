"""Stage 4: point 14, the judges of what is told of a sum, with 4."""

import unittest
from copy import deepcopy

from rootwheel.sums import grounded, nought, shows_not, shows_nought, spread, sum_plus, wheel
from tests.helpers import ODD_ONES, bent_ones, check_judged, numbers_from, plain_primes, stream

GREAT = 10 ** 70 - 1
COUNTS = (1, 2, 3, 4, 5, 6, 8, 9, 12, 15, 18, 20, 27, 30, 36, 42, 60, 61)


def sum_of(n, wheels):
    """What the wheels come to, one after the other."""
    total = [0] * n
    for p, j, c in wheels:
        total = sum_plus(total, [c * number for number in wheel(n, p, j)])
    return total


def all_wheels(n, seed, great):
    """Wheels in a row round n, all of them there, but for a count 0."""
    source = stream(seed + n)
    keys = [(p, j) for p in plain_primes(n) for j in range(n // p)]
    rows = [(p, j, c) for (p, j), c in zip(keys, numbers_from(source, len(keys), -great, great))]
    return [row for row in rows if row[2] != 0]


def bare(numbers):
    return [number for number in numbers if number != 0]


class Judges(unittest.TestCase):
    def check_both(self, some, thing, by_nought, by_not):
        check_judged(self, by_nought, shows_nought, some, thing)
        check_judged(self, by_not, shows_not, some, thing)

    def check_neither(self, some, thing):
        self.check_both(some, thing, False, False)

    def check_bent(self, some, thing):
        """The right thing is let by; nothing that is bent from it is, by either judge."""
        self.check_both(some, thing, thing[0] == "nought", thing[0] == "not")
        for bent in bent_ones(thing):
            # Where the wheels of a right thing come to noughts, none at all is as right.
            if repr(bent) != repr(thing[:-1] + ([],)) or any(sum_of(len(some), thing[-1])):
                self.check_neither(some, bent)

    def some_noughts(self, n):
        source = stream(n)
        rows = [[0] * n, sum_of(n, all_wheels(n, 3, 2)), sum_of(n, all_wheels(n, 4, GREAT))]
        for p in plain_primes(n):
            rows.append(wheel(n, p, n // p - 1))
            many = -next(source)
            rows.append([many * number for number in wheel(n, p, 0)])
        return rows

    def some_others(self, n):
        source = stream(n + 5)
        root = [0] * n
        root[n - 1] = 1
        rows = [root, [-GREAT] + [0] * (n - 1), [1, 2] + [0] * (n - 2) if n > 2 else [3] + [0] * (n - 1)]
        rows += [numbers_from(source, n, -5, 5), numbers_from(source, n, -GREAT, GREAT)]
        return [some for some in rows if any(grounded(some)[0])]


class Told(Judges):
    def test_what_is_told_is_let_by_its_judge_alone(self):
        for n in tuple(range(1, 62)) + (105, 180, 210, 300, 305):
            for some in self.some_noughts(n):
                self.check_both(some, nought(some), True, False)
            for some in self.some_others(n):
                self.check_both(some, nought(some), False, True)

    def test_of_what_spread_told(self):
        for n in (1, 6, 42, 60, 61):
            for some in self.some_noughts(n) + self.some_others(n):
                wide = spread(some, 5)
                told = nought(wide)
                self.assertEqual(told[0], nought(some)[0])
                self.check_both(wide, told, told[0] == "nought", told[0] == "not")

    def test_of_another_sum(self):
        for n in COUNTS:
            rows = self.some_noughts(n) + self.some_others(n)
            for one in rows:
                for other in rows:
                    if one != other:
                        self.check_neither(one, nought(other))

    def test_what_is_told_may_be_used_again(self):
        some = sum_of(12, all_wheels(12, 3, 9))
        told = nought(some)
        told[1].append((3, 0, 1))
        self.check_neither(some, told)
        self.check_both(some, nought(some), True, False)
        told[1].pop()
        self.check_both(some, told, True, False)


class Right(Judges):
    """Other right things than what is told."""

    def test_other_right_wheels_of_noughts(self):
        for n, wheels in (
            (6, [(2, 0, 1), (2, 1, 1), (2, 2, 1), (3, 0, -1), (3, 1, -1)]),
            (6, [(2, 0, -GREAT), (2, 1, -GREAT), (2, 2, -GREAT), (3, 0, GREAT), (3, 1, GREAT)]),
            (12, [(2, 0, 1), (2, 2, 1), (2, 4, 1), (3, 0, -1), (3, 2, -1)]),
            (15, [(3, 0, 7), (3, 1, 7), (3, 2, 7), (3, 3, 7), (3, 4, 7), (5, 0, -7), (5, 1, -7), (5, 2, -7)]),
        ):
            self.check_bent([0] * n, ("nought", wheels))
            some = [5] + [0] * (n - 1)
            self.check_bent(some, ("not", some, wheels))

    def test_other_right_wheels_of_sums(self):
        for n in (6, 10, 12, 15, 18, 30, 42, 60):
            p, q = plain_primes(n)[:2]
            # Wheels of the one prime that lie on wheels of the other one.
            places = range(0, n, n // (p * q))
            more = [(p, j, 1) for j in places if j < n // p] + [(q, j, -1) for j in places if j < n // q]
            self.assertEqual(sum_of(n, more), [0] * n)
            for some in self.some_noughts(n) + self.some_others(n):
                told = nought(some)
                counts = {(r, j): c for r, j, c in told[-1]}
                for r, j, c in more:
                    counts[(r, j)] = counts.get((r, j), 0) + 3 * c
                other = [(r, j, c) for (r, j), c in sorted(counts.items()) if c != 0]
                self.assertNotEqual(other, told[-1])
                self.check_both(some, told[:-1] + (other,), told[0] == "nought", told[0] == "not")

    def test_of_all_wheels(self):
        for n in COUNTS:
            for great in (1, 9, GREAT):
                wheels = all_wheels(n, 21, great)
                some = sum_of(n, wheels)
                self.check_both(some, ("nought", wheels), True, False)
                rest = [4] + [0] * (n - 1)
                self.check_both(sum_plus(some, rest), ("not", rest, wheels), False, True)


class Bent(Judges):
    def test_each_thing_bent(self):
        for n in (1, 2, 3, 4, 5, 6, 9, 12):
            for some in self.some_noughts(n)[:4] + self.some_others(n)[:4]:
                self.check_bent(some, nought(some))

    def test_rows_of_wheels(self):
        for n in (2, 4, 6, 12, 30, 60):
            wheels = all_wheels(n, 31, 4)
            some = sum_of(n, wheels)
            rest = [0] * n
            rest[0] = 2
            more = sum_plus(some, rest)
            self.check_both(some, ("nought", wheels), True, False)
            self.check_both(more, ("not", rest, wheels), False, True)
            for bent in self.bent_wheels(n, wheels):
                self.check_neither(some, ("nought", bent))
                self.check_neither(more, ("not", rest, bent))

    def bent_wheels(self, n, wheels):
        found = [wheels[:-1], wheels[1:], wheels + wheels[-1:], wheels + wheels, tuple(wheels), [wheels]]
        found += [wheels[::-1]] if len(wheels) > 1 else []
        for at, (p, j, c) in enumerate(wheels):
            ahead, behind = wheels[:at], wheels[at + 1:]
            found += [ahead + parts + behind for parts in (
                [(p, j, 0), (p, j, c)], [(p, j, c), (p, j, 0)], [(p, j, c), (p, j, c)], [(p, j, 1), (p, j, c - 1)],
                [(p, j, c + GREAT), (p, j, -GREAT)], [[p, j, c]], [(p, j)], [(p, j, c, 0)], [(p, j, c, c)], [(j, p, c)],
                [((p, j), c)], [(p, (j, c))], [(p, j, str(c))], [(str(p), j, c)], [(p, str(j), c)], [(p, j, [c])],
                [(p, j, None)], [(None, j, c)], [(p, None, c)], [(p, j + n // p, c)], [(p, j - n // p, c)],
                [(p, j + n, c)], [(p, j - n, c)], [(-p, j, c)], [(7 * p, j, c)], [(1, j, c)], [(0, j, c)],
                [(n + 1, j, c)],
                [(p, j, -c)], [(p, GREAT, c)], [(p, -GREAT, c)], [(GREAT, j, c)], [(p, j, c), None], [(p, j, c), 0],
            )]
            if j in (0, 1):
                found.append(ahead + [(p, bool(j), c)] + behind)
            if c == 1:
                found.append(ahead + [(p, j, True)] + behind)
            if behind:
                found.append(ahead + [behind[0], (p, j, c)] + behind[1:])
        return [bent for bent in found if repr(bent) != repr(wheels)]

    def test_a_number_that_is_no_prime_of_n(self):
        # Each of these would come to the sum, were the number a prime of n.
        for n, number in ((4, 4), (6, 6), (12, 4), (12, 6), (8, 1), (9, 9), (5, 1), (1, 1), (30, 15), (60, 60)):
            some = [1 if place % (n // number) == 0 else 0 for place in range(n)]
            self.check_neither(some, ("nought", [(number, 0, 1)]))
            rest = [3] + [0] * (n - 1)
            self.check_neither(sum_plus(some, rest), ("not", rest, [(number, 0, 1)]))

    def test_beginnings_too_great_or_below_nought(self):
        for n in (2, 3, 4, 5, 6, 8, 9, 12, 30, 60, 61):
            for p in plain_primes(n):
                step = n // p
                for j in (-1, -step, -step - 1, -n, step, step + 1, n - 1, n, n + 1, 2 * n, GREAT):
                    if j not in range(step):
                        # The sums that would come of it by going on round the wheel, or along the list.
                        wheel_places = [(j + i * step) % n for i in range(p)]
                        list_places = [i for i in range(n) if i >= j and (i - j) % step == 0]
                        for taken in (wheel_places, list_places):
                            some = [1 if place in taken else 0 for place in range(n)]
                            self.check_neither(some, ("nought", [(p, j, 1)]))
                            rest = [3] + [0] * (n - 1)
                            self.check_neither(sum_plus(some, rest), ("not", rest, [(p, j, 1)]))
                        some = [0] * n
                        for place in range(max(j, -n), n, step):
                            some[place] += 1
                        self.check_neither(some, ("nought", [(p, j, 1)]))

    def test_counts_of_nought(self):
        for n, p in ((2, 2), (6, 3), (60, 5)):
            self.check_neither([0] * n, ("nought", [(p, 0, 0)]))
            self.check_neither([0] * n, ("nought", [(p, 0, False)]))
            self.check_neither([4] + [0] * (n - 1), ("not", [4] + [0] * (n - 1), [(p, 0, 0)]))

    def test_truths_for_numbers(self):
        self.check_neither([1, 1], ("nought", [(2, 0, True)]))
        self.check_neither([1, 1], ("nought", [(2, False, 1)]))
        self.check_neither([0, 1, 0, 1], ("nought", [(2, True, 1)]))
        self.check_neither([1, 0], ("not", [True, 0], []))
        self.check_neither([1, 0], ("not", [1, False], []))
        self.check_neither([2, 1], ("not", [1, 0], [(2, 0, True)]))
        self.check_both([1, 1], ("nought", [(2, 0, 1)]), True, False)
        self.check_both([2, 1], ("not", [1, 0], [(2, 0, 1)]), False, True)

    def test_first_words(self):
        wheels, rest = [(2, 0, 1)], [1, 0]
        for word in (
            "not", "Nought", "NOUGHT", "nought ", " nought", "noughts", "nough", "", "none", None, 0, True, ["nought"],
        ):
            self.check_neither([1, 1], (word, wheels))
        for word in ("nought", "Not", "NOT", "not ", " not", "no", "", "none", None, 0, True, ["not"]):
            self.check_neither([2, 1], (word, rest, wheels))

    def test_longer_and_shorter_tuples(self):
        wheels, rest = [(2, 0, 1)], [1, 0]
        for thing in (
            ("nought",), ("nought", wheels, wheels), ("nought", wheels, None), ("nought", rest, wheels), (wheels,),
            (wheels, "nought"), ["nought", wheels], ("nought", [wheels]), ("nought", (wheels,)), ("nought", wheels[0]),
        ):
            self.check_neither([1, 1], thing)
        for thing in (
            ("not",), ("not", rest), ("not", wheels), ("not", wheels, rest), ("not", rest, wheels, rest),
            (rest, wheels), ["not", rest, wheels], ("not", (rest, wheels)), ("not", rest, tuple(wheels)),
            ("not", tuple(rest), wheels),
        ):
            self.check_neither([2, 1], thing)

    def test_rests(self):
        for n in (1, 2, 3, 6, 12, 30, 60):
            for some in self.some_others(n):
                _, rest, wheels = nought(some)
                for bent in (
                    rest + [0], rest[:-1], rest + rest, [0] + rest, tuple(rest), [str(number) for number in rest], [],
                    [[number] for number in rest], [None] * n, None, 5, "rest", [0] * n, [True] * n,
                    bare(rest) + [0] * n,
                ):
                    self.check_neither(some, ("not", bent, wheels))

    def test_rests_off_the_ground(self):
        # Rest and wheels together are the sum, but the rest stands off the ground.
        for n in (2, 3, 4, 6, 9, 12, 30, 42, 60):
            for some in self.some_others(n):
                self.assertTrue(any(some))
                if grounded(some)[0] != some:
                    self.check_neither(some, ("not", some, []))
                rest = sum_plus(nought(some)[1], [-number for number in wheel(n, plain_primes(n)[0], 0)])
                wheels = {(p, j): c for p, j, c in nought(some)[2]}
                wheels[(plain_primes(n)[0], 0)] = wheels.get((plain_primes(n)[0], 0), 0) + 1
                rows = [(p, j, c) for (p, j), c in sorted(wheels.items()) if c != 0]
                self.assertEqual(sum_plus(rest, sum_of(n, rows)), some)
                self.check_neither(some, ("not", rest, rows))

    def test_rests_of_noughts(self):
        for n in COUNTS:
            for some in self.some_noughts(n):
                wheels = nought(some)[1]
                self.check_neither(some, ("not", [0] * n, wheels))
                self.check_neither(some, ("not", wheels))
                self.check_neither(some, ("nought", wheels, [0] * n))
                if any(some):
                    self.check_neither(some, ("not", some, []))
                    self.check_neither(some, ("nought", []))

    def test_things_of_all_kinds(self):
        for n in (1, 2, 3, 6, 30):
            for some in ([0] * n, [1] * n, [1] + [0] * (n - 1)):
                told = nought(some)
                things = list(ODD_ONES) + list(some) + [some, tuple(some), grounded(some), grounded(some)[1]]
                for thing in deepcopy(things):
                    right = thing == ("nought", []) and not any(some)
                    self.check_both(some, thing, right, False)
                    if repr(thing) != repr(told[-1]):
                        self.check_neither(some, told[:-1] + (thing,))
                    if isinstance(thing, tuple) or not thing:
                        self.check_neither(some, ("not", thing, told[-1]))
                    if thing != told[0]:
                        self.check_neither(some, (thing,) + told[1:])

    def test_deep_things(self):
        deep = 1
        for _ in range(25):
            deep = [(deep,)]
        for thing in (deep, ("nought", deep), ("nought", [deep]), ("not", deep, []), ("not", [1, 0], deep)):
            self.check_neither([1, 0], thing)
            self.check_neither([0, 0], thing)


if __name__ == "__main__":
    unittest.main()
