"""Periods: the roots of an odd prime in crowds, and the products of these; and sums of plain wheels."""

from rootwheel.errors import NoCrowds, NoPlain
from rootwheel.judging import alike
from rootwheel.sums import all_noughts, sum_times
from rootwheel.wholes import check_odd_prime, parted, power_by


def crowds(p, e):
    """The e crowds of the numbers from 1 to p - 1, each rising; or NoPrime, NoCrowds."""
    check_odd_prime(p)
    if e < 1 or (p - 1) % e != 0:
        raise NoCrowds("the number of crowds does not divide the prime less one")
    powers = sorted({power_by(a, e, p) for a in range(1, p)})
    found = []
    for a in range(1, p):
        if all([a not in crowd for crowd in found]):
            found.append(sorted([a * power % p for power in powers]))
    return found


def period(p, crowd):
    """The sum round p with 1 at the places of the crowd, else 0."""
    some = [0] * p
    for place in crowd:
        some[place] = 1
    return some


def periods(p, e):
    """The periods, in the order of their crowds; or NoPrime, NoCrowds."""
    return [period(p, crowd) for crowd in crowds(p, e)]


def table(p, e):
    """The first period times each one, by how often each period stands in it; or NoPrime, NoCrowds."""
    rows = crowds(p, e)
    first = period(p, rows[0])
    told = []
    for crowd in rows:
        product = sum_times(first, period(p, crowd))
        # All places of a crowd have one number, and what stands at the place 0 is as often
        # all periods taken away, as these make -1 together.
        told.append([product[other[0]] - product[0] for other in rows])
    return told


def is_table(p, e, thing):
    """Whether the thing is the table of the periods; or NoPrime, NoCrowds."""
    return alike(thing, table(p, e))


def plain_wheels(some):
    """Wheels in a row, none less than once, that come to the sum, or None; or NoPlain."""
    n = len(some)
    primes = [p for p, _ in parted(n)]
    if len(primes) > 2 or any([number < 0 for number in some]):
        raise NoPlain("more than two primes, or a number below 0")
    rest = list(some)
    wheels = []
    # Where the sum comes to nought, each number is that of a wheel of the one prime and that of a
    # wheel of the other one together. Once all is taken that the one can, the other has the rest.
    for p in primes:
        step = n // p
        for j in range(step):
            c = min(rest[j::step])
            if c > 0:
                wheels.append((p, j, c))
                for place in range(j, n, step):
                    rest[place] -= c
    if all_noughts(rest):
        return wheels
    return None
