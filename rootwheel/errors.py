"""The refusals: one class for each, all of them straight under WheelError."""


class WheelError(ValueError):
    """Any refusal."""


class NoCosine(WheelError):
    """The sum is told by no cosine."""


class NoCrowds(WheelError):
    """The number of crowds does not divide the prime less one."""


class NoDeed(WheelError):
    """Nothing is kept that could be taken back."""


class NoFold(WheelError):
    """The polynomial reads otherwise from behind, or has no middle."""


class NoName(WheelError):
    """The word is no name, or no sum stands by it."""


class NoOrder(WheelError):
    """The two numbers have a prime in common."""


class NoPart(WheelError):
    """The last number of the polynomial to part by is not 1."""


class NoPlain(WheelError):
    """More than two primes divide n, or a number of the sum is below 0."""


class NoPrime(WheelError):
    """The number is not a prime of the kind that is asked for."""


class NoRow(WheelError):
    """The text is none of the rows that the desk knows."""


class NoSize(WheelError):
    """The number is beyond the sizes that the desk takes."""


class NoText(WheelError):
    """The text is not that of any such thing."""


class NoUnit(WheelError):
    """The number is no unit."""
