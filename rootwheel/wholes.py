"""Whole numbers: what divides them, their units, their signs, and orders by them."""

from math import gcd, isqrt

from rootwheel.errors import NoOrder, NoPrime


def divisors(n):
    """All whole numbers from 1 on that divide n, rising."""
    low = [d for d in range(1, isqrt(n) + 1) if n % d == 0]
    # A square's root is its own partner, and must not be told twice.
    high = [n // d for d in reversed(low) if d * d != n]
    return low + high


def parted(n):
    """The tuples (p, times) of the primes that divide n and how often, p rising."""
    rows = []
    left = n
    p = 2
    while p * p <= left:
        times = 0
        while left % p == 0:
            left //= p
            times += 1
        if times > 0:
            rows.append((p, times))
        p += 1
    # No number from 2 to the root of what is left divides it: it is 1 or a prime.
    if left > 1:
        rows.append((left, 1))
    return rows


def units(n):
    """The whole numbers from 0 to n - 1 with no divisor but 1 in common with n, rising."""
    return [k for k in range(n) if gcd(k, n) == 1]


def sign(n):
    """0 where a prime divides n twice, else 1 or -1 by whether even or odd many primes do."""
    rows = parted(n)
    for _, times in rows:
        if times > 1:
            return 0
    if len(rows) % 2 == 0:
        return 1
    return -1


def order(a, n):
    """The least k from 1 on with which n divides a to the power k, less 1; or NoOrder."""
    if gcd(a, n) != 1:
        raise NoOrder("the two numbers have a prime in common")
    step = a % n
    # By 1 every number leaves 0, the number 1 too.
    one = 1 % n
    power = step
    k = 1
    while power != one:
        power = power * step % n
        k += 1
    return k


def is_prime(number):
    """Whether the number, any whole one, is a prime."""
    return number > 1 and parted(number) == [(number, 1)]


def check_odd_prime(p):
    """Refuse with NoPrime whatever is no odd prime."""
    if p == 2 or not is_prime(p):
        raise NoPrime("the number is no odd prime")


def power_by(a, k, n):
    """What a to the power k, k from 0 on, leaves by n."""
    power = 1 % n
    square = a % n
    left = k
    while left > 0:
        if left % 2 == 1:
            power = power * square % n
        square = square * square % n
        left //= 2
    return power
