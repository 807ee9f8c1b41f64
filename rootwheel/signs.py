"""Signs by an odd prime, the sums that they make, and the powers of these."""

from rootwheel.errors import NoPrime
from rootwheel.judging import alike
from rootwheel.sums import nought, sum_times
from rootwheel.wholes import check_odd_prime


def sign_by(a, p):
    """0 where p divides a, 1 where a leaves as much as some square, else -1; or NoPrime."""
    check_odd_prime(p)
    left = a % p
    if left == 0:
        return 0
    if left in [number * number % p for number in range(1, p)]:
        return 1
    return -1


def sign_sum(p):
    """The sum round p with the place's sign at each place; or NoPrime."""
    check_odd_prime(p)
    return [sign_by(place, p) for place in range(p)]


def square_of(p):
    """The tuple (sum, number, wheels): the square of the sign sum is the number and the wheels; or NoPrime."""
    some = sign_sum(p)
    number = -p
    if p % 4 == 1:
        number = p
    rest = sum_times(some, some)
    rest[0] -= number
    return (some, number, nought(rest)[1])


def sign_power(p, q):
    """The tuple (sign, sum): the sign sum to the power q is itself times sign, and sum times q; or NoPrime."""
    check_odd_prime(p)
    check_odd_prime(q)
    if p == q:
        raise NoPrime("the two primes are alike")
    some = sign_sum(p)
    power = some
    for _ in range(q - 1):
        power = sum_times(some, power)
    sign = sign_by(q, p)
    return (sign, [(number - sign * own) // q for number, own in zip(power, some)])


def shows_sign(p, q, thing):
    """Whether the thing is the tuple that is told of the sign sum to the power q; or NoPrime."""
    return alike(thing, sign_power(p, q))
