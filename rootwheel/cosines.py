"""Doubled cosines: what a root and the one over it make together, and the polynomials of these."""

from rootwheel.errors import NoCosine, NoFold
from rootwheel.judging import alike
from rootwheel.leads import led, whole_of
from rootwheel.polys import minus, over, plus, times, trimmed
from rootwheel.roots import root_poly
from rootwheel.sums import same, sum_times
from rootwheel.wholes import divisors


def next_doubled(here, last):
    """The doubled polynomial behind these two, that stand behind one another."""
    return minus([0] + here, last)


def doubled(k):
    """The doubled polynomial of k, k from 0 on."""
    last = [2]
    here = [0, 1]
    for _ in range(k):
        last, here = here, next_doubled(here, last)
    return last


def folded(f):
    """The polynomial g that at z and 1 over z together, times a power of z, is f; or NoFold."""
    if len(f) == 0:
        return []
    if len(f) % 2 == 0 or f != f[::-1]:
        raise NoFold("the polynomial has no middle, or reads otherwise from behind")
    middle = len(f) // 2
    g = [f[middle]]
    last = [2]
    here = [0, 1]
    for number in f[middle + 1:]:
        g = plus(g, [number * part for part in here])
        last, here = here, next_doubled(here, last)
    return g


def unfolded(g):
    """The polynomial that is folded as g."""
    f = []
    for at, number in enumerate(reversed(g)):
        f = plus(times(f, [1, 0, 1]), [0] * at + [number])
    return f


def cosine_polys(n):
    """The tuples (d, f) of the divisors d of n, rising, and the cosine polynomial f of each."""
    return [(d, cosine_poly(d)) for d in divisors(n)]


def cosine_poly(n):
    """The cosine polynomial of n."""
    if n == 1:
        return [-2, 1]
    if n == 2:
        return [2, 1]
    return folded(root_poly(n))


def are_cosines(n, thing):
    """Whether the thing is the list of the cosine polynomials of n."""
    return alike(thing, cosine_polys(n))


def as_sum(n, g):
    """The polynomial g laid out as a sum round n, the first root and the last one together in the place of x."""
    root = [0] * n
    root[1 % n] += 1
    root[n - 1] += 1
    total = [0] * n
    for number in reversed(g):
        total = sum_times(root, total)
        total[0] += number
    return total


def has_cosine(some):
    """Whether the sum is the same number as that to which the unit n less 1 leads it."""
    return same(some, led(some, len(some) - 1))


def by_cosine(some):
    """The polynomial with fewer numbers than the cosine one that, laid out, is the same number; or NoCosine."""
    if not has_cosine(some):
        raise NoCosine("the unit n less 1 leads the sum to another number")
    n = len(some)
    if n < 3:
        return trimmed([whole_of(some)])
    # The sum is kept as two polynomials in x, the first root and the last one together: one and the
    # first root times other. A root more makes of them -other and the root times (one and x other),
    # as the root's square is x times the root, less 1.
    one = []
    other = []
    for number in reversed(some):
        one, other = minus([number], other), plus(one, [0] + other)
    # What x does not reach comes to nought, as the sum is kept.
    return over(one, cosine_poly(n))[1]


def shows_cosine(some, thing):
    """Whether the thing is the polynomial by which the sum is told."""
    return has_cosine(some) and alike(thing, by_cosine(some))


def above(n, top, bottom):
    """The tuple (many, row): how many roots of the cosine polynomial are greater than the fraction, and by what row."""
    row = []
    scale = 1
    for number in reversed(cosine_poly(n)):
        row = plus(times(row, [top, 1]), [number * scale])
        scale *= bottom
    many = 0
    last = 0
    for number in row:
        if last * number < 0:
            many += 1
        if number != 0:
            last = number
    return (many, row)
