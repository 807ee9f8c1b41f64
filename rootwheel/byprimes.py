"""The polynomials of the roots by a prime: numbers that leave the same by it count as one."""

from rootwheel.errors import NoPrime
from rootwheel.judging import alike
from rootwheel.polys import minus, over, trimmed
from rootwheel.roots import root_poly
from rootwheel.wholes import is_prime, order, power_by, units


def by_prime(f, p):
    """The polynomial f by p: what its numbers leave."""
    return trimmed([number % p for number in f])


def made_whole(f, p):
    """The polynomial f, not [], times the number by p that makes its last one 1."""
    # Each number but 0, to the power p - 1, leaves 1 by p.
    back = power_by(f[-1], p - 2, p)
    return by_prime([number * back for number in f], p)


def shared(f, g, p):
    """The greatest polynomial that divides f and g by p, its last number 1, as that of f is."""
    here = f
    left = by_prime(g, p)
    while len(left) > 0:
        whole = made_whole(left, p)
        left = by_prime(over(here, whole)[1], p)
        here = whole
    return here


def led_round(j, p, m):
    """The polynomial with 1 at each power below m to which times p leads from j."""
    f = [0] * m
    place = j
    while f[place] == 0:
        f[place] = 1
        place = place * p % m
    return trimmed(f)


def pieces_of(f, steady, p):
    """The parts of f by each of which the steady polynomial leaves one number."""
    parts = [shared(f, minus(steady, trimmed([c])), p) for c in range(p)]
    return [part for part in parts if len(part) > 1]


def least_parts(m, p):
    """The parts by p, none of them a product, of the root polynomial of m, which p does not divide."""
    size = order(p, m) + 1
    parts = [by_prime(root_poly(m), p)]
    # What times p leads round leaves one number by each least part, and together these tell any two
    # of the parts from one another.
    for j in range(m):
        steady = led_round(j, p, m)
        small = [part for part in parts if len(part) == size]
        great = [part for part in parts if len(part) > size]
        parts = small + [piece for part in great for piece in pieces_of(part, steady, p)]
    return parts


def parted_by_prime(n, p):
    """The tuples (f, times) of the polynomials that make the root polynomial of n by p; or NoPrime."""
    if not is_prime(p):
        raise NoPrime("the number to part by is no prime")
    m = n
    while m % p == 0:
        m //= p
    times = len(units(n // m))
    return [(f, times) for f in sorted(least_parts(m, p))]


def is_parted_by_prime(n, p, thing):
    """Whether the thing is the list of the parts by p of the root polynomial of n; or NoPrime."""
    return alike(thing, parted_by_prime(n, p))
