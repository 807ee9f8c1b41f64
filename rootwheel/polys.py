"""Polynomials: lists of whole numbers, that of the power 0 first, the last one not 0."""

from rootwheel.errors import NoPart


def trimmed(numbers):
    """The polynomial of these numbers, which may end in noughts: a new list without those."""
    many = len(numbers)
    while many > 0 and numbers[many - 1] == 0:
        many -= 1
    return numbers[:many]


def plus(f, g):
    """The sum of f and g."""
    total = [0] * max(len(f), len(g))
    for at, number in enumerate(f):
        total[at] += number
    for at, number in enumerate(g):
        total[at] += number
    return trimmed(total)


def minus(f, g):
    """The polynomial f less the polynomial g."""
    return plus(f, [-number for number in g])


def times(f, g):
    """The product of f and g."""
    if len(f) == 0 or len(g) == 0:
        return []
    total = [0] * (len(f) + len(g) - 1)
    for i, a in enumerate(f):
        for j, b in enumerate(g):
            total[i + j] += a * b
    return total


def over(f, g):
    """The tuple (q, r): f is q times g and r, r with fewer numbers than g; or NoPart."""
    if len(g) == 0 or g[-1] != 1:
        raise NoPart("the last number of the polynomial to part by is not 1")
    low = g[:-1]
    rest = list(f)
    heads = []
    while len(rest) >= len(g):
        # The last number of g is 1, so it takes this head away and leaves the numbers below.
        head = rest.pop()
        heads.append(head)
        start = len(rest) - len(low)
        for at, number in enumerate(low):
            rest[start + at] -= head * number
    heads.reverse()
    return (heads, trimmed(rest))


def value(f, number):
    """The value of f at the number."""
    total = 0
    for part in reversed(f):
        total = total * number + part
    return total


def at_power(f, k):
    """The polynomial f with x to the power k, k from 1 on, in the place of x."""
    if len(f) == 0:
        return []
    spread = [0] * ((len(f) - 1) * k + 1)
    for at, number in enumerate(f):
        spread[at * k] = number
    return spread
