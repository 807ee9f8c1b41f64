"""The primes that a number's powers less one first meet, and papers that they are primes and all there are."""

from rootwheel.judging import are_whole
from rootwheel.polys import value
from rootwheel.roots import root_poly
from rootwheel.wholes import order, parted, power_by

# Why no prime is first met at n, for the only n where that may be.
WHY = {1: "one", 2: "two", 6: "six"}


def value_of(a, n):
    """The value of the root polynomial of n at a."""
    return value(root_poly(n), a)


def first_rows(a, n):
    """The tuples (q, times) of the primes first met at n by a, q rising."""
    # A first prime divides no root polynomial but this one, and so the power less one as often as its value.
    return [(q, times) for q, times in parted(value_of(a, n)) if order(a, q) == n]


def first_primes(a, n):
    """("primes", rows) of the primes first met at n by a, or ("none", why)."""
    rows = first_rows(a, n)
    if len(rows) > 0:
        return ("primes", rows)
    return ("none", WHY[n])


def left_of(a, n):
    """What the primes first met at n by a leave of the value of the root polynomial."""
    return left_by(value_of(a, n), first_rows(a, n))


def left_by(number, rows):
    """What is left of the number, from 1 on, without what the rows begin with; 0 where a row tells another times."""
    left = number
    for row in rows:
        # Dividing ends with what is left, however great the times that the row tells.
        times = 0
        while left % row[0] == 0:
            left //= row[0]
            times += 1
        if times != row[1]:
            return 0
    return left


def goes_round(g, q, primes):
    """Whether q divides g to the power q - 1, less 1, and for no prime that of (q - 1) over the prime."""
    if power_by(g, q - 1, q) != 1:
        return False
    return all([power_by(g, (q - 1) // r, q) != 1 for r in primes])


def prime_paper(q):
    """A paper (q, g, rows) of the prime q."""
    rows = parted(q - 1)
    primes = [r for r, _ in rows]
    g = 1
    while not goes_round(g, q, primes):
        g += 1
    return (q, g, [(r, times, prime_paper(r)) for r, times in rows])


def are_rows(rows, many):
    """Whether it is a list of tuples of so many parts: a number from 2 on, rising, times from 1 on, and others."""
    if not isinstance(rows, list):
        return False
    last = 1
    for row in rows:
        if not isinstance(row, tuple) or len(row) != many or not are_whole(row[:2]):
            return False
        if row[0] <= last or row[1] < 1:
            return False
        last = row[0]
    return True


def shows_prime(q, paper):
    """Whether the paper is one of the prime q."""
    if not isinstance(paper, tuple) or len(paper) != 3 or not are_whole(paper[:2]):
        return False
    number, g, rows = paper
    if number != q or not 1 <= g < q or not are_rows(rows, 3) or left_by(q - 1, rows) != 1:
        return False
    if not goes_round(g, q, [row[0] for row in rows]):
        return False
    return all([shows_prime(row[0], row[2]) for row in rows])


def has_order(a, n, q):
    """Whether n is the order of a by q, q from 2 on, looking no farther than to n."""
    power = 1
    for k in range(1, n + 1):
        power = power * a % q
        if power == 1:
            return k == n
    return False


def may_be_left(n, left):
    """Whether first primes may leave this of a value of the root polynomial of n."""
    if n == 1:
        return left == 1
    if n == 2:
        return left > 0 and left & (left - 1) == 0
    return left == 1 or left == parted(n)[-1][0]


def shows_firsts(a, n, rows, papers):
    """Whether the rows are all primes first met at n by a, with a paper of each at its place."""
    if not are_rows(rows, 2) or not isinstance(papers, list) or len(papers) != len(rows):
        return False
    if not all([shows_prime(row[0], paper) and has_order(a, n, row[0]) for row, paper in zip(rows, papers)]):
        return False
    return may_be_left(n, left_by(value_of(a, n), rows))
