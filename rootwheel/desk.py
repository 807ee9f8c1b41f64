"""The desk: rows of text that keep sums by names, ask of them, and look at what is told."""

from rootwheel.cosines import by_cosine, shows_cosine
from rootwheel.errors import NoDeed, NoName, NoPrime, NoRow, NoSize, NoUnit
from rootwheel.firsts import first_primes, prime_paper, shows_firsts, shows_prime
from rootwheel.leads import is_least_poly, keepers, least_poly, least_wheel, led, norm, rest_of, round_of, trace
from rootwheel.roots import root_poly
from rootwheel.sums import ground, nought, same, shows_not, shows_nought, spread, sum_plus, sum_times, turned
from rootwheel.texts import (
    read_paper, read_poly, read_rows, read_sum, read_told, read_whole, show_paper, show_poly, show_rows, show_sum,
    show_told,
)
from rootwheel.wholes import is_prime, order, units

LETTERS = "abcdefghijklmnopqrstuvwxyz"
RESTS = ("SUM", "TOLD", "POLY", "PAPER", "ROWS")
# What stands behind the first word: NAME a name, A a name by which a sum stands, K a number, and rests.
SHAPES = {
    "wheel": ("K",), "spread": ("K",), "sum": ("NAME", "SUM"), "plus": ("NAME", "A", "A"),
    "times": ("NAME", "A", "A"), "turn": ("NAME", "A", "K"), "lead": ("NAME", "A", "K"), "rest": ("NAME", "A"),
    "drop": ("A",), "back": (), "size": (), "names": (), "ground": (), "show": ("A",), "nought": ("A",),
    "told": ("A",), "same": ("A", "A"), "trace": ("A",), "norm": ("A",), "keepers": ("A",), "round": ("A",),
    "least": ("A",), "poly": ("A",), "cosine": ("A",), "root": ("K",), "order": ("K", "K"), "firsts": ("K", "K"),
    "paper": ("K",), "shows": ("A", "TOLD"), "makes": ("A", "POLY"), "cosines": ("A", "POLY"),
    "prime": ("K", "PAPER"), "all": ("K", "K", "ROWS"),
}


def parted_row(row):
    """The tuple (first word, list of what stands behind it); or NoRow."""
    words = row.split(" ")
    word = words[0]
    if word not in SHAPES:
        raise NoRow("no row begins so")
    shape = SHAPES[word]
    parts = words[1:]
    if len(shape) > 0 and shape[-1] in RESTS:
        many = len(shape) - 1
        rest = " ".join(parts[many:])
        if rest == "":
            raise NoRow("the rest is missing")
        parts = parts[:many] + [rest]
    if len(parts) != len(shape):
        raise NoRow("the row has too few words or too many")
    return (word, parts)


def is_name(word):
    """Whether the word is a name."""
    return 1 <= len(word) <= 8 and all([sign in LETTERS for sign in word])


def check_names(shape, parts, kept):
    """Refuse with NoName what is no name, or none by which a sum stands."""
    for kind, part in zip(shape, parts):
        if kind == "NAME" and not is_name(part):
            raise NoName("it is no name")
        if kind == "A" and part not in kept:
            raise NoName("no sum stands by this name")


def read_all(text):
    """The tuple (rows, papers) of a text of rows of primes, by, and of papers; or NoText."""
    head, _, tail = text.partition(" by ")
    rows = read_rows(head)
    if tail == "none":
        return (rows, [])
    return (rows, [read_paper(part) for part in tail.split("; ")])


def read_part(kind, part):
    """What stands in a row, read as its kind is; or NoText."""
    if kind == "K":
        return read_whole(part)
    if kind == "SUM":
        return read_sum(part)
    if kind == "TOLD":
        return read_told(part)
    if kind == "POLY":
        return read_poly(part)
    if kind == "PAPER":
        return read_paper(part)
    if kind == "ROWS":
        return read_all(part)
    return part


def check_size(number, least, most):
    """Refuse with NoSize a number below the least or above the most."""
    if number < least or number > most:
        raise NoSize("the number is beyond what the desk takes")


def joined(words, between):
    """The words with this between them, or none where there are none."""
    if len(words) == 0:
        return "none"
    return between.join(words)


def numbers_joined(numbers):
    """The numbers with a blank between them."""
    return " ".join([str(number) for number in numbers])


def yes_or_no(truth):
    """The truth as the desk tells it."""
    if truth:
        return "yes"
    return "no"


# Rows that keep something: each tells the n and the sums that are kept from then on, the sums in a new dict.


def keep_wheel(n, kept, size):
    check_size(size, 1, 60)
    return (size, {})


def keep_spread(n, kept, k):
    check_size(k * n, 1, 60)
    return (k * n, {name: spread(kept[name], k) for name in kept})


def keep_sum(n, kept, name, some):
    check_size(len(some), n, n)
    return (n, {**kept, name: some})


def keep_plus(n, kept, name, a, b):
    return (n, {**kept, name: sum_plus(kept[a], kept[b])})


def keep_times(n, kept, name, a, b):
    return (n, {**kept, name: sum_times(kept[a], kept[b])})


def keep_turn(n, kept, name, a, j):
    return (n, {**kept, name: turned(kept[a], j)})


def keep_lead(n, kept, name, a, k):
    if k not in units(n):
        raise NoUnit("the number is no unit")
    return (n, {**kept, name: led(kept[a], k)})


def keep_rest(n, kept, name, a):
    return (n, {**kept, name: rest_of(kept[a])})


def keep_drop(n, kept, a):
    return (n, {name: kept[name] for name in kept if name != a})


# Rows that ask, and rows that look at what is told: each tells its answer.


def ask_size(n, kept):
    return str(n)


def ask_names(n, kept):
    return joined(sorted(kept), " ")


def ask_ground(n, kept):
    return numbers_joined(ground(n))


def ask_show(n, kept, a):
    return show_sum(kept[a])


def ask_nought(n, kept, a):
    return yes_or_no(nought(kept[a])[0] == "nought")


def ask_told(n, kept, a):
    return show_told(nought(kept[a]))


def ask_same(n, kept, a, b):
    return yes_or_no(same(kept[a], kept[b]))


def ask_trace(n, kept, a):
    return str(trace(kept[a]))


def ask_norm(n, kept, a):
    return str(norm(kept[a]))


def ask_keepers(n, kept, a):
    return numbers_joined(keepers(kept[a]))


def ask_round(n, kept, a):
    return "; ".join([show_sum(some) for some in round_of(kept[a])])


def ask_least(n, kept, a):
    return show_sum(least_wheel(kept[a])[1])


def ask_poly(n, kept, a):
    return show_poly(least_poly(kept[a]))


def ask_cosine(n, kept, a):
    return show_poly(by_cosine(kept[a]))


def ask_root(n, kept, m):
    check_size(m, 1, 60)
    return show_poly(root_poly(m))


def ask_order(n, kept, h, m):
    check_size(m, 1, 999)
    return str(order(h, m))


def ask_firsts(n, kept, h, m):
    check_size(h, 2, 10)
    check_size(m, 1, 12)
    word, told = first_primes(h, m)
    if word == "none":
        return "none " + told
    return show_rows(told)


def ask_paper(n, kept, q):
    if q > 1000000:
        raise NoSize("the number is beyond what the desk takes")
    if not is_prime(q):
        raise NoPrime("the number is no prime")
    return show_paper(prime_paper(q))


def look_shows(n, kept, a, told):
    return yes_or_no(shows_nought(kept[a], told) or shows_not(kept[a], told))


def look_makes(n, kept, a, f):
    return yes_or_no(len(f) > 0 and is_least_poly(kept[a], f))


def look_cosines(n, kept, a, f):
    return yes_or_no(shows_cosine(kept[a], f))


def look_prime(n, kept, q, paper):
    return yes_or_no(shows_prime(q, paper))


def look_all(n, kept, h, m, told):
    check_size(h, 2, 10)
    check_size(m, 1, 12)
    return yes_or_no(shows_firsts(h, m, told[0], told[1]))


KEEPING = {
    "wheel": keep_wheel, "spread": keep_spread, "sum": keep_sum, "plus": keep_plus, "times": keep_times,
    "turn": keep_turn, "lead": keep_lead, "rest": keep_rest, "drop": keep_drop,
}
ASKING = {
    "size": ask_size, "names": ask_names, "ground": ask_ground, "show": ask_show, "nought": ask_nought,
    "told": ask_told, "same": ask_same, "trace": ask_trace, "norm": ask_norm, "keepers": ask_keepers,
    "round": ask_round, "least": ask_least, "poly": ask_poly, "cosine": ask_cosine, "root": ask_root,
    "order": ask_order, "firsts": ask_firsts, "paper": ask_paper, "shows": look_shows, "makes": look_makes,
    "cosines": look_cosines, "prime": look_prime, "all": look_all,
}


class Desk:
    """Keeps an n and sums round it by names, and answers rows of text with texts."""

    def __init__(self):
        self.n = 1
        self.kept = {}
        # What was kept ahead of each row that kept something and was not taken back.
        self.past = []

    def say(self, row):
        """The answer to the row; or a refusal, which changes nothing."""
        word, parts = parted_row(row)
        shape = SHAPES[word]
        check_names(shape, parts, self.kept)
        things = [read_part(kind, part) for kind, part in zip(shape, parts)]
        if word == "back":
            return self.take_back()
        n = self.n
        kept = self.kept
        if word in KEEPING:
            keep = KEEPING[word]
            after = keep(n, kept, *things)
            self.past.append((n, kept))
            self.n, self.kept = after
            return "ok"
        ask = ASKING[word]
        return ask(n, kept, *things)

    def take_back(self):
        """Keep again what was kept ahead of the last row that kept something; or NoDeed."""
        if len(self.past) == 0:
            raise NoDeed("nothing is left to take back")
        self.n, self.kept = self.past.pop()
        return "ok"
