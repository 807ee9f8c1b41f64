"""Texts of polynomials, sums, wheels and papers; reading is strict: a thing has one text alone."""

from rootwheel.errors import NoText
from rootwheel.polys import trimmed

FIGURES = "0123456789"
# How many figures a number has at most that is read, how great a power or n is, and how deep papers are.
MOST_FIGURES = 60
MOST_POWER = 999
MOST_DEEP = 12


def show_term(number, letter, power):
    """One term, its number from 1 on."""
    if power == 0:
        return str(number)
    head = ""
    if number > 1:
        head = str(number)
    tail = ""
    if power > 1:
        tail = f"^{power}"
    return head + letter + tail


def show_terms(letter, terms):
    """The terms of the tuples (power, number), those of the number 0 left out."""
    words = []
    for power, number in terms:
        if number < 0:
            words.append("- " + show_term(-number, letter, power))
        if number > 0:
            words.append("+ " + show_term(number, letter, power))
    if len(words) == 0:
        return "0"
    # The first term has its - straight ahead of it, and no +.
    text = " ".join(words)
    if text[0] == "-":
        return "-" + text[2:]
    return text[2:]


def show_poly(f):
    """The text of the polynomial."""
    return show_terms("x", list(reversed(list(enumerate(f)))))


def show_sum(some):
    """The text of the sum."""
    return f"{len(some)}: " + show_terms("z", list(enumerate(some)))


def show_wheels(wheels):
    """The text of the wheels in a row."""
    if len(wheels) == 0:
        return "none"
    return "; ".join([f"{c} of {p} at {j}" for p, j, c in wheels])


def show_told(told):
    """The text of what is told of a sum."""
    if told[0] == "nought":
        return "nought by " + show_wheels(told[1])
    return "not " + show_sum(told[1]) + " by " + show_wheels(told[2])


def show_paper(paper):
    """The text of the paper."""
    q, g, rows = paper
    words = [str(q), str(g)]
    for r, times, part in rows:
        words.append(f"({r} {times} " + show_paper(part) + ")")
    return "(" + " ".join(words) + ")"


def show_rows(rows):
    """The text of the rows of primes."""
    if len(rows) == 0:
        return "none"
    words = []
    for q, times in rows:
        tail = ""
        if times > 1:
            tail = f"^{times}"
        words.append(str(q) + tail)
    return " ".join(words)


def read_whole(text):
    """The whole number of this text; or NoText."""
    figures = text.removeprefix("-")
    if figures == "" or len(figures) > MOST_FIGURES or not all([figure in FIGURES for figure in figures]):
        raise NoText("it is no number, or one of too many figures")
    number = int(text)
    if str(number) != text:
        raise NoText("the number is written with a needless 0, or 0 with -")
    return number


def read_count(text, least):
    """The whole number of this text, from the least one on; or NoText."""
    number = read_whole(text)
    if number < least:
        raise NoText("the number is too small for its place")
    return number


def read_term(letter, many, text):
    """The tuple (power, number) of one term, the power below many; or NoText."""
    head, mark, tail = text.partition(letter)
    power = 0
    if mark != "":
        power = 1
        if tail != "":
            power = read_count(tail.removeprefix("^"), 0)
        if head == "" or head == "-":
            head += "1"
    if power >= many:
        raise NoText("the power is too great")
    return (power, read_whole(head))


def read_terms(letter, many, text):
    """The numbers of the powers below many, as the terms in the text tell them; or NoText."""
    numbers = [0] * many
    sign = "+"
    for at, word in enumerate(text.split(" ")):
        if at % 2 == 1:
            sign = word
        else:
            power, number = read_term(letter, many, word)
            if sign == "-":
                number = -number
            numbers[power] = number
    return numbers


def check_text(shown, text):
    """Refuse with NoText a text that isn't the one by which the thing that was read in it is shown."""
    # So no reader needs to look for needless or missing signs, another order, or anything twice.
    if shown != text:
        raise NoText("the text is not written as it should be")


def read_poly(text):
    """The polynomial of this text; or NoText."""
    f = trimmed(read_terms("x", MOST_POWER + 1, text))
    check_text(show_poly(f), text)
    return f


def read_sum(text):
    """The sum of this text; or NoText."""
    head, _, tail = text.partition(": ")
    n = read_count(head, 1)
    if n > MOST_POWER:
        raise NoText("the sum goes round too many")
    some = read_terms("z", n, tail)
    check_text(show_sum(some), text)
    return some


def read_wheel(text):
    """The tuple (p, j, c) of this text of a wheel; or NoText."""
    words = text.split(" ")
    if len(words) != 5 or words[1] != "of" or words[3] != "at":
        raise NoText("it is no wheel")
    c = read_whole(words[0])
    if c == 0:
        raise NoText("the wheel is taken no times")
    return (read_count(words[2], 0), read_count(words[4], 0), c)


def read_wheels(text):
    """The wheels of this text; or NoText."""
    if text == "none":
        return []
    return [read_wheel(part) for part in text.split("; ")]


def read_told(text):
    """What is told of a sum, by this text; or NoText."""
    head, _, tail = text.partition(" by ")
    if head == "nought":
        return ("nought", read_wheels(tail))
    if not head.startswith("not "):
        raise NoText("it is nothing that is told of a sum")
    return ("not", read_sum(head.removeprefix("not ")), read_wheels(tail))


def word_at(words, at):
    """The word at this place, or one without a sign behind the last one."""
    if at < len(words):
        return words[at]
    return ""


def paper_at(words, at, deep):
    """The tuple (paper, place behind it) of the paper that begins at this word; or NoText."""
    if deep == 0 or word_at(words, at) != "(":
        raise NoText("no paper stands here, or one too deep")
    q = read_count(word_at(words, at + 1), 0)
    g = read_count(word_at(words, at + 2), 0)
    place = at + 3
    rows = []
    while word_at(words, place) == "(":
        r = read_count(word_at(words, place + 1), 0)
        times = read_count(word_at(words, place + 2), 0)
        part, place = paper_at(words, place + 3, deep - 1)
        rows.append((r, times, part))
        # What closes the row is looked at where the whole text is.
        place += 1
    return ((q, g, rows), place + 1)


def read_paper(text):
    """The paper of this text; or NoText."""
    words = text.replace("(", "( ").replace(")", " )").split(" ")
    paper, _ = paper_at(words, 0, MOST_DEEP)
    check_text(show_paper(paper), text)
    return paper


def read_row(text):
    """The tuple (q, times) of this text of a prime; or NoText."""
    head, mark, tail = text.partition("^")
    times = 1
    if mark != "":
        times = read_count(tail, 2)
    return (read_count(head, 0), times)


def read_rows(text):
    """The rows of primes of this text; or NoText."""
    if text == "none":
        return []
    return [read_row(word) for word in text.split(" ")]
