"""The polynomials of the roots of one."""

from rootwheel.judging import alike
from rootwheel.polys import at_power, over
from rootwheel.wholes import divisors, parted


def root_polys(n):
    """The tuples (d, f) of the divisors d of n, rising, and the root polynomial f of each."""
    return [(d, root_poly(d)) for d in divisors(n)]


def root_poly(n):
    """The root polynomial of n."""
    f = [-1, 1]
    left = n
    for p, _ in parted(n):
        # A new prime: of the roots whose p-th power is a root of f, those of f itself go.
        f = over(at_power(f, p), f)[0]
        left //= p
    # A prime again: all roots are wanted whose power is a root of f.
    return at_power(f, left)


def are_polys(n, thing):
    """Whether the thing is the list of the root polynomials of n."""
    return alike(thing, root_polys(n))
