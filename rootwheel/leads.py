"""Sums led by units: what keeps them, where they lead, and what all of these make together."""

from rootwheel.judging import alike
from rootwheel.sums import grounded, same, spread, sum_plus, sum_times
from rootwheel.wholes import parted, units


def led(some, k):
    """The sum led by the unit k: what stood at j stands at k times j."""
    n = len(some)
    told = [0] * n
    for place, number in enumerate(some):
        told[k * place % n] = number
    return told


def rest_of(some):
    """The rest of the sum, a new list."""
    return grounded(some)[0]


def keepers(some):
    """The units that lead the sum to the same number, rising."""
    rest = rest_of(some)
    return [k for k in units(len(some)) if rest_of(led(some, k)) == rest]


def round_of(some):
    """The rests of the unlike numbers to which units lead the sum, by the least unit of each."""
    found = []
    for k in units(len(some)):
        rest = rest_of(led(some, k))
        if rest not in found:
            found.append(rest)
    return found


def whole_sum(n, number):
    """The whole number as a sum round n."""
    return [number] + [0] * (n - 1)


def whole_of(some):
    """The whole number that the sum is."""
    # The place 0 is of every ground, so that the rest has the number there.
    return rest_of(some)[0]


def trace(some):
    """The sum of all to which the units lead the sum."""
    n = len(some)
    total = whole_sum(n, 0)
    for k in units(n):
        total = sum_plus(total, led(some, k))
    return whole_of(total)


def norm(some):
    """The product of all to which the units lead the sum."""
    n = len(some)
    total = whole_sum(n, 1)
    for k in units(n):
        total = rest_of(sum_times(total, led(some, k)))
    return whole_of(total)


def narrowed(some, p):
    """The sum round n over p, p a prime of n, that is the same number where there is one."""
    n = len(some)
    step = n // p
    if step % p == 0:
        return some[::p]
    # Taking a wheel of p away often enough leaves 0 at its next place, here for all such wheels;
    # what then stands off the places that p divides must come to nought by itself.
    return [some[place] - some[(place + step) % n] for place in range(0, n, p)]


def least_wheel(some):
    """The tuple (m, sum): the least m on which the sum lies, and its rest round m."""
    here = some
    for p, times in parted(len(some)):
        for _ in range(times):
            narrow = narrowed(here, p)
            if same(spread(narrow, p), here):
                here = narrow
    return (len(here), rest_of(here))


def times_less(f, root):
    """The polynomial f, its numbers sums, times x less the root."""
    taken = [-number for number in root]
    nothing = [0] * len(root)
    lower = [rest_of(sum_times(part, taken)) for part in f]
    return [sum_plus(one, other) for one, other in zip([nothing] + f, lower + [nothing])]


def least_poly(some):
    """The least polynomial of the sum."""
    f = [whole_sum(len(some), 1)]
    for root in round_of(some):
        f = times_less(f, root)
    return [whole_of(part) for part in f]


def is_least_poly(some, f):
    """Whether f is the least polynomial of the sum."""
    return alike(f, least_poly(some))
