"""What the tests share: looking at what is told part by part, and numbers by another way than the program's."""

from copy import deepcopy
from functools import cache
from itertools import count


def lists_in(thing):
    """Every list in the thing, itself too, as often as it stands there."""
    if not isinstance(thing, (list, tuple)):
        return []
    found = [thing] if isinstance(thing, list) else []
    for part in thing:
        found += lists_in(part)
    return found


def leaves_in(thing):
    """All that stands in the thing and is neither a list nor a tuple."""
    if not isinstance(thing, (list, tuple)):
        return [thing]
    found = []
    for part in thing:
        found += leaves_in(part)
    return found


def spoil(thing):
    """Change every list in the thing."""
    for row in lists_in(thing):
        row.reverse()
        row.append("spoilt")


def check_told(test, function, *questions):
    """Point 2 for one question; what was told comes back as it was at first."""
    # All is done to copies, as what is handed in is changed at the end.
    args = deepcopy(questions)
    before = deepcopy(questions)
    told = function(*args)
    first = deepcopy(told)
    test.assertEqual(args, before, "what was handed in was changed")
    check_own(test, told, args)
    spoil(told)
    test.assertEqual(args, before, "what was told hangs together with what was handed in")
    again = function(*args)
    test.assertEqual(again, first, "asked again, something else was told")
    check_own(test, again, args)
    spoil(list(args))
    test.assertEqual(again, first, "what was handed in hangs together with what was told")
    test.assertEqual(function(*before), first, "asked with the same, something else was told")
    return first


def check_own(test, told, args):
    """Each list told stands there once, none was handed in, and numbers are no truths."""
    rows = lists_in(told)
    for at, row in enumerate(rows):
        for other in rows[at + 1:] + lists_in(args):
            test.assertIsNot(row, other)
    for leaf in leaves_in(told):
        # First words of tuples are texts; truths are told by judges alone.
        test.assertIn(type(leaf), (int, str))


def refusal(function, *args):
    """The class of the refusal, or None where none is made; what is handed in stays the same."""
    before = deepcopy(args)
    try:
        function(*args)
    except ValueError as error:
        assert args == before, "what was handed in was changed"
        return type(error)
    return None


def check_judged(test, answer, judge, *questions):
    """The judge tells just this truth, twice, and changes nothing of what it looks at."""
    args = deepcopy(questions)
    before = repr(args)
    for _ in range(2):
        told = judge(*args)
        # Written out only where it fails, as the things may be long.
        if told is not answer or repr(args) != before:
            test.fail(f"{judge.__name__} told {told!r} of {before[:400]}, now {repr(args)[:400]}")


# None of these is anything that a judge lets by.
ODD_ONES = (
    None, True, False, 0, 1, -1, 7, 10 ** 80, "", "nought", "not", "none", "[]", "0", [], (), [0], (0,), [1], [True],
    [[]], [()], ([],), ((),), [None], (None,), ["nought", []], ("nought",), ("not",), ("nought", None), ("nought", 0),
    ("nought", "wheels"), ("not", [], []), ("not", None, None), ("not", 1, 2), ("nought", [[]]), ("nought", [()]),
    ("nought", [None]), ("nought", [0]), ("nought", [True]), ("not", "ab", "cd"), [[[[[[[[[[]]]]]]]]]],
    ("nought", [((((((((),),),),),),),)]), ([("nought", [])],), (1, [1]), [(1, [1])], [(1, 1)], [("1", [-1, 1])],
)


def bent_parts(part):
    """What may stand in the place of a number, a text, a truth or None."""
    others = [None, str(part), str(part) + " ", [part], (part,), "", [], (), True, False, 0, 1, -1, 2, 10 ** 45]
    if isinstance(part, int):
        others += [part + 1, part - 1, -part, 2 * part, bool(part), -part - 1]
    if isinstance(part, str):
        others += [part.upper(), part[:-1], "not", "nought", "none", list(part)]
    return others


def bent_rows(row):
    """What may stand in the place of a list or a tuple."""
    kind, other = (list, tuple) if isinstance(row, list) else (tuple, list)
    parts = list(row)
    others = [other(parts), None, repr(row), 0, True, kind([row]), other([row]), kind(parts[::-1]), kind([])]
    others += [kind(parts + parts)]
    for more in (0, 1, True, None, "", [], (), row):
        others += [kind(parts + [more]), kind([more] + parts)]
    for at, part in enumerate(parts):
        ahead, behind = parts[:at], parts[at + 1:]
        others += [kind(ahead + [bent] + behind) for bent in bent_ones(part)]
        others += [kind(ahead + behind), kind(ahead + [part, part] + behind)]
        others += [kind(ahead + [deepcopy(parts[at + 1]), part] + behind[1:])] if behind else []
    return others


def bent_ones(thing):
    """Things that are like this one but for one part, which is another or of another kind."""
    others = bent_rows(thing) if isinstance(thing, (list, tuple)) else bent_parts(thing)
    # As written out, unlike kinds of number and row are unlike, too.
    found = {repr(other): other for other in others}
    found.pop(repr(thing), None)
    return list(found.values())


def stream(seed):
    """Whole numbers of up to seventy figures that look like chance, the same in each run."""
    # A small seed needs some turns to grow as long as the others.
    for turn in count():
        seed = (seed * 6364136223846793005 + 1442695040888963407) % 2 ** 521
        if turn > 9:
            yield seed >> 289


def numbers_from(source, many, low, high):
    """So many whole numbers from low to high."""
    return [low + next(source) % (high - low + 1) for _ in range(many)]


def plain_parts(n):
    """The divisors of n, rising."""
    return [d for d in range(1, n + 1) if n % d == 0]


def plain_primes(n):
    """The primes that divide n, rising."""
    return [p for p in plain_parts(n) if len(plain_parts(p)) == 2]


def plain_units(n):
    """The units of n, rising."""
    return [k for k in range(n) if all(k % p != 0 for p in plain_primes(n))]


def plain_product(f, g):
    """The product of two rows of numbers, as polynomials."""
    total = [0] * (len(f) + len(g) - 1)
    for at in range(len(total)):
        total[at] = sum(f[i] * g[at - i] for i in range(len(f)) if 0 <= at - i < len(g))
    return total


def plain_rest(f, g):
    """What f leaves by g, whose last number is 1, as one number less than g has."""
    rest = list(f) + [0] * (len(g) - 1 - len(f))
    for at in range(len(rest) - len(g), -1, -1):
        head = rest[at + len(g) - 1]
        for place, number in enumerate(g):
            rest[at + place] -= head * number
    return rest[:len(g) - 1]


@cache
def plain_root_poly(n):
    """The root polynomial of n, by the sums of its roots' powers (Newton), as a tuple."""
    many = len(plain_units(n))
    # The sum of the k-th powers of the roots: each root of the lesser wheel as often as roots lead to it.
    sums = [plain_root_sum(n, k) for k in range(many + 1)]
    signed = [1]
    for k in range(1, many + 1):
        signed.append(-sum(signed[k - i] * sums[i] for i in range(1, k + 1)) // k)
    return tuple(signed[::-1])


@cache
def plain_root_sum(n, k):
    """The sum of the k-th powers of the roots whose n-th power is 1 and no lesser one."""
    whole = n if k % n == 0 else 0
    return whole - sum(plain_root_sum(d, k) for d in plain_parts(n)[:-1])


def plain_number(some):
    """The number that the sum is, in the one form that its rest by the root polynomial is."""
    return plain_rest(some, plain_root_poly(len(some)))


def plain_led(some, k):
    """The sum led by the unit k, looked up from the new places."""
    n = len(some)
    back = [i for i in range(n) if i * k % n == 1 % n][0]
    return [some[place * back % n] for place in range(n)]
