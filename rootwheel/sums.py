"""Sums of the roots of one round n: lists of n whole numbers, how often each power of the first root stands."""

from rootwheel.judging import are_whole
from rootwheel.wholes import parted


def sum_plus(one, other):
    """The two sums together."""
    return [a + b for a, b in zip(one, other)]


def sum_times(one, other):
    """The product of the two sums."""
    n = len(one)
    total = [0] * n
    for i, a in enumerate(one):
        if a != 0:
            for j, b in enumerate(other):
                total[(i + j) % n] += a * b
    return total


def turned(some, j):
    """The sum with each place j more."""
    n = len(some)
    return [some[(place - j) % n] for place in range(n)]


def spread(some, k):
    """The same number as a sum round k times as many."""
    wide = [0] * (k * len(some))
    for place, number in enumerate(some):
        wide[k * place] = number
    return wide


def powers_of(n):
    """The tuples (p, high, low) of the primes p of n: high is p as often as it divides n, low once less."""
    rows = []
    for p, _ in parted(n):
        high = p
        while n % (high * p) == 0:
            high *= p
        rows.append((p, high, high // p))
    return rows


def ground(n):
    """The places of the ground of n, rising."""
    rows = powers_of(n)
    return [j for j in range(n) if all([j % high < high - low for _, high, low in rows])]


def wheel(n, p, j):
    """The wheel of p begun at j, as a sum round n."""
    return come_to(n, [(p, j, 1)])


def come_to(n, wheels):
    """The sum round n that the wheels come to."""
    total = [0] * n
    for p, j, c in wheels:
        for place in range(j, n, n // p):
            total[place] += c
    return total


def grounded(some):
    """The tuple (rest, wheels): the rest is 0 off the ground, and with the wheels it makes the sum."""
    n = len(some)
    rest = list(some)
    wheels = []
    for p, high, low in powers_of(n):
        step = n // p
        for j in range(step):
            # Each wheel of p has just one place that p bars from the ground; its number is taken
            # off the whole wheel. For the other primes all these places leave the same.
            barred = [place for place in range(j, n, step) if place % high >= high - low]
            c = rest[barred[0]]
            if c != 0:
                wheels.append((p, j, c))
                for place in range(j, n, step):
                    rest[place] -= c
    return (rest, wheels)


def all_noughts(numbers):
    """Whether each of the numbers is 0."""
    return all([number == 0 for number in numbers])


def nought(some):
    """("nought", wheels) where the sum comes to nought, else ("not", rest, wheels)."""
    rest, wheels = grounded(some)
    if all_noughts(rest):
        return ("nought", wheels)
    return ("not", rest, wheels)


def same(one, other):
    """Whether the two sums, round the same n, are the same number."""
    return grounded(one)[0] == grounded(other)[0]


def is_turned_wheel(n, primes, thing):
    """Whether the thing is a tuple (p, j, c) as it stands among wheels round n, whose primes these are."""
    if not isinstance(thing, tuple) or len(thing) != 3 or not are_whole(thing):
        return False
    p, j, c = thing
    return p in primes and 0 <= j < n // p and c != 0


def are_wheels(n, thing):
    """Whether the thing is wheels in a row round n."""
    if not isinstance(thing, list):
        return False
    primes = [p for p, _ in parted(n)]
    last = (0, 0)
    for row in thing:
        if not is_turned_wheel(n, primes, row):
            return False
        here = (row[0], row[1])
        if here <= last:
            return False
        last = here
    return True


def is_rest(n, thing):
    """Whether the thing is a sum round n that is 0 off the ground, and not all noughts."""
    if not isinstance(thing, list) or len(thing) != n or not are_whole(thing):
        return False
    places = ground(n)
    return not all_noughts(thing) and all_noughts([thing[j] for j in range(n) if j not in places])


def shows_nought(some, thing):
    """Whether the thing is ("nought", wheels), wheels in a row that come to the sum."""
    if not isinstance(thing, tuple) or len(thing) != 2 or thing[0] != "nought":
        return False
    n = len(some)
    wheels = thing[1]
    return are_wheels(n, wheels) and come_to(n, wheels) == some


def shows_not(some, thing):
    """Whether the thing is ("not", rest, wheels), the sum grounded, its rest not all noughts."""
    if not isinstance(thing, tuple) or len(thing) != 3 or thing[0] != "not":
        return False
    n = len(some)
    rest = thing[1]
    wheels = thing[2]
    return is_rest(n, rest) and are_wheels(n, wheels) and sum_plus(rest, come_to(n, wheels)) == some
