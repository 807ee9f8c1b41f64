"""Stage 11: points 34 to 36, with 2, 3 and 4."""

import re
import unittest
from copy import deepcopy
from itertools import product as every

from rootwheel.errors import NoText
from rootwheel.firsts import first_primes, prime_paper
from rootwheel.sums import nought
from rootwheel.texts import (
    read_paper, read_poly, read_rows, read_sum, read_told, read_wheels, show_paper, show_poly, show_rows, show_sum,
    show_told, show_wheels,
)
from tests.helpers import check_told, leaves_in, lists_in, numbers_from, refusal, stream

SIXTY = 10 ** 60 - 1
COUNT = "(?:0|[1-9][0-9]{0,59})"
WHOLE = "(?:0|-?[1-9][0-9]{0,59})"
SIGNS = "0123456789-+ ^xz:;()abefghnortuy,.\n"

POLYS = (
    ([], "0"), ([1], "1"), ([-1], "-1"), ([7], "7"), ([0, 1], "x"), ([0, -1], "-x"), ([0, 2], "2x"), ([0, -2], "-2x"),
    ([0, 0, 1], "x^2"), ([0, 0, -1], "-x^2"), ([0, 0, 5], "5x^2"), ([1, 0, -1, 3], "3x^3 - x^2 + 1"),
    ([1, 1, 1], "x^2 + x + 1"), ([-1, -1, -1], "-x^2 - x - 1"), ([0, 1, -1], "-x^2 + x"), ([-1, 1], "x - 1"),
    ([1, -1], "-x + 1"), ([10, 0, -11, 12], "12x^3 - 11x^2 + 10"), ([0] * 10 + [1], "x^10"),
    ([SIXTY, -SIXTY], f"-{SIXTY}x + {SIXTY}"), ([-SIXTY] + [0] * 998 + [SIXTY], f"{SIXTY}x^999 - {SIXTY}"),
    ([0] * 999 + [-1], "-x^999"), ([-2, 1], "x - 2"), ([0, 0, 0, 100], "100x^3"),
)
SUMS = (
    ([0], "1: 0"), ([1], "1: 1"), ([-5], "1: -5"), ([0, 0], "2: 0"), ([1, 1], "2: 1 + z"), ([0, -1], "2: -z"),
    ([0, -1, 0, 2], "4: -z + 2z^3"), ([-1, -1, -1], "3: -1 - z - z^2"), ([0, 0, 1], "3: z^2"), ([0, 1, 0], "3: z"),
    ([10, -12, 0, 0, 0, 1], "6: 10 - 12z + z^5"), ([0] * 998 + [-1], "999: -z^998"),
    ([SIXTY] + [0] * 997 + [-SIXTY], f"999: {SIXTY} - {SIXTY}z^998"), ([0] * 11, "11: 0"), ([0, 0, -3], "3: -3z^2"),
)
WHEELS = (
    ([], "none"), ([(2, 0, 1)], "1 of 2 at 0"), ([(2, 0, -1)], "-1 of 2 at 0"),
    ([(2, 0, 3), (3, 1, -4)], "3 of 2 at 0; -4 of 3 at 1"), ([(61, 0, SIXTY)], f"{SIXTY} of 61 at 0"),
    ([(3, 1, 1), (2, 0, 1), (2, 0, 1)], "1 of 3 at 1; 1 of 2 at 0; 1 of 2 at 0"), ([(0, 0, -7)], "-7 of 0 at 0"),
    ([(4, 100, 10)], "10 of 4 at 100"), ([(SIXTY, SIXTY, -SIXTY)], f"-{SIXTY} of {SIXTY} at {SIXTY}"),
)
TOLD = (
    (("nought", []), "nought by none"), (("nought", [(2, 1, 3)]), "nought by 3 of 2 at 1"),
    (("not", [1, 0, 0, 0], [(2, 0, -1)]), "not 4: 1 by -1 of 2 at 0"),
    (("not", [1, 1, 0, 0], [(2, 0, -1)]), "not 4: 1 + z by -1 of 2 at 0"), (("not", [0, 0], []), "not 2: 0 by none"),
    (("not", [-5], [(7, 9, 1), (0, 0, 2)]), "not 1: -5 by 1 of 7 at 9; 2 of 0 at 0"),
    (("nought", [(3, 0, 1), (3, 0, 1)]), "nought by 1 of 3 at 0; 1 of 3 at 0"),
    (("not", [0, -1, 2], [(3, 0, SIXTY)]), f"not 3: -z + 2z^2 by {SIXTY} of 3 at 0"),
)
PAPERS = (
    ((2, 1, []), "(2 1)"), ((3, 2, [(2, 1, (2, 1, []))]), "(3 2 (2 1 (2 1)))"), ((0, 0, []), "(0 0)"),
    ((7, 3, [(2, 1, (2, 1, [])), (3, 1, (3, 2, [(2, 1, (2, 1, []))]))]), "(7 3 (2 1 (2 1)) (3 1 (3 2 (2 1 (2 1)))))"),
    ((9, 4, [(0, 0, (5, 5, [])), (0, 0, (5, 5, []))]), "(9 4 (0 0 (5 5)) (0 0 (5 5)))"),
    ((SIXTY, SIXTY, [(SIXTY, SIXTY, (1, 0, []))]), f"({SIXTY} {SIXTY} ({SIXTY} {SIXTY} (1 0)))"),
)
ROWS = (
    ([], "none"), ([(7, 1)], "7"), ([(7, 2)], "7^2"), ([(7, 1), (13, 2)], "7 13^2"), ([(11, 10), (2, 1)], "11^10 2"),
    ([(0, 1)], "0"), ([(1, 1), (1, 1)], "1 1"), ([(SIXTY, SIXTY)], f"{SIXTY}^{SIXTY}"),
    ([(3, 1), (3, 3), (3, 1)], "3 3^3 3"),
)
ALL = (
    (show_poly, read_poly, POLYS), (show_sum, read_sum, SUMS), (show_wheels, read_wheels, WHEELS),
    (show_told, read_told, TOLD), (show_paper, read_paper, PAPERS), (show_rows, read_rows, ROWS),
)


def plain_terms(text, letter, rising, many):
    """The numbers by their powers, or None, by looking for the forms of terms."""
    if text == "0":
        return {}
    term = rf"([1-9][0-9]{{0,59}})?(?:({letter})(?:\^({COUNT}))?)?"
    found, last, at, first = {}, None, 0, True
    while at < len(text) or first:
        sign = re.compile("(-?)" if first else " ([-+]) ").match(text, at)
        if not sign:
            return None
        part = re.compile(term).match(text, sign.end())
        head, mark, tail = part.groups()
        power = 0 if mark is None else 1 if tail is None else int(tail)
        wrong = part.end() == sign.end() or (head == "1" and mark is not None) or (tail is not None and power < 2)
        if wrong or power >= many or (last is not None and (power <= last if rising else power >= last)):
            return None
        found[power] = (-1 if sign.group(1) == "-" else 1) * int(head or "1")
        last, at, first = power, part.end(), False
    return found


def laid(found, many):
    return [found.get(at, 0) for at in range(many)]


def plain_poly(text):
    found = plain_terms(text, "x", False, 1000)
    return None if found is None else laid(found, max(found, default=-1) + 1)


def plain_sum(text):
    head = re.match(r"([1-9][0-9]{0,2}): ", text)
    found = head and plain_terms(text[head.end():], "z", True, int(head.group(1)))
    return None if found is None else laid(found, int(head.group(1)))


def plain_wheels(text):
    if text == "none":
        return []
    found = [re.fullmatch(rf"({WHOLE}) of ({COUNT}) at ({COUNT})", part) for part in text.split("; ")]
    if not all(found) or any(row.group(1) == "0" for row in found):
        return None
    return [(int(row.group(2)), int(row.group(3)), int(row.group(1))) for row in found]


def plain_told(text):
    found = re.fullmatch(r"(nought|not (?P<sum>[^b]*)) by (?P<wheels>[^b]*)", text)
    if not found:
        return None
    some, wheels = found.group("sum"), plain_wheels(found.group("wheels"))
    if some is None:
        return None if wheels is None else ("nought", wheels)
    return None if wheels is None or plain_sum(some) is None else ("not", plain_sum(some), wheels)


def plain_paper(text):
    """The paper by taking away papers that have none within, again and again, up to twelve times."""
    row = rf"\({COUNT} {COUNT} P\)"
    whole, deep = text, 0
    while deep < 12 and whole not in ("P", ""):
        # What stands deepest is taken first, so that there are as many turns as the papers are deep.
        whole, deep = re.sub(rf"\({COUNT} {COUNT}(?: {row})*\)", "P", whole), deep + 1
    if whole != "P" or "P" in text:
        return None
    plain = re.sub(r"\((\d+) (\d+)", r"(\1,\2,", text).replace(") (", "),(").replace(", (", ",(")
    return shaped(eval(plain))


def shaped(thing):
    """The tuple (q, g, row, row, ..) as (q, g, rows)."""
    return (thing[0], thing[1], [(row[0], row[1], shaped(row[2])) for row in thing[2:]])


def plain_rows(text):
    if text == "none":
        return []
    found = [re.fullmatch(rf"({COUNT})(?:\^({COUNT}))?", word) for word in text.split(" ")]
    if not all(found) or any(row.group(2) in ("0", "1") for row in found):
        return None
    return [(int(row.group(1)), int(row.group(2) or "1")) for row in found]


PLAIN = {
    read_poly: plain_poly, read_sum: plain_sum, read_wheels: plain_wheels, read_told: plain_told,
    read_paper: plain_paper, read_rows: plain_rows,
}


def bent_texts(text):
    """Texts with one sign left out, put in, exchanged or turned about."""
    found = set()
    for at in range(len(text) + 1):
        found.update(text[:at] + sign + text[at:] for sign in SIGNS)
        found.update(text[:at] + sign + text[at + 1:] for sign in SIGNS)
        found.update([text[:at] + text[at + 1:], text[:at], text[at:], text[:at] + text[at:at + 3] + text[at:]])
        found.add(text[:at] + text[at + 1:at + 2] + text[at:at + 1] + text[at + 2:])
    return sorted(found)


def thirteen():
    """A text of papers that are twelve deep, and one of thirteen."""
    text = "(2 1)"
    rows = [text]
    for _ in range(12):
        rows.append(f"(3 2 (2 1 {rows[-1]}))")
    return rows[11], rows[12]


class Case(unittest.TestCase):
    def check_read(self, read, show, text):
        """Read as the plain reader does, or refused; what is read is written as the same text."""
        right = PLAIN[read](text)
        try:
            thing = read(text)
        except NoText:
            self.assertIsNone(right, (read.__name__, text))
            return
        self.assertEqual(repr(thing), repr(right), (read.__name__, text))
        self.assertEqual(show(thing), text)

    def check_refused(self, read, text):
        self.assertIs(refusal(read, text), NoText, (read.__name__, text))


class BackAndForth(Case):
    def test_told_ones(self):
        for show, read, rows in ALL:
            for thing, text in rows:
                self.assertEqual(check_told(self, show, thing), text)
                self.assertEqual(repr(check_told(self, read, text)), repr(thing))
                self.assertEqual(repr(PLAIN[read](text)), repr(thing), text)

    def test_small_polynomials_and_sums(self):
        for many in (1, 2, 3, 4):
            for numbers in every((-2, -1, 0, 1, 12), repeat=many):
                some = list(numbers)
                self.check_read(read_sum, show_sum, show_sum(some))
                self.assertEqual(read_sum(show_sum(some)), some)
                if some[-1] != 0:
                    self.assertEqual(read_poly(show_poly(some)), some)
                    self.check_read(read_poly, show_poly, show_poly(some))

    def test_great_polynomials_and_sums(self):
        for many in (7, 61, 100, 305, 425):
            some = numbers_from(stream(many), many, -9, 9)
            self.assertEqual(read_sum(show_sum(some)), some)
            self.assertEqual(read_poly(show_poly(some + [1])), some + [1])
        some = numbers_from(stream(2), 60, -SIXTY, SIXTY)
        self.assertEqual(read_sum(show_sum(some)), some)
        for many in (999, 1000):
            some = numbers_from(stream(3), many - 1, -1, 1) + [1]
            text = show_poly(some)
            self.assertEqual(plain_poly(text), some)
        self.assertEqual(plain_sum(show_sum([1] * 999)), [1] * 999)

    def test_what_is_told_of_sums(self):
        for n in (1, 2, 3, 4, 6, 12, 30):
            for some in ([0] * n, [1] * n, numbers_from(stream(n), n, -9, 9)):
                told = nought(some)
                self.assertEqual(read_told(show_told(told)), told)
                self.assertEqual(read_wheels(show_wheels(told[-1])), told[-1])
                self.check_read(read_told, show_told, show_told(told))

    def test_papers_of_primes(self):
        for q in (2, 3, 7, 13, 257, 1000003, 1266767, 13999981):
            paper = prime_paper(q)
            self.assertEqual(read_paper(show_paper(paper)), paper)
            self.check_read(read_paper, show_paper, show_paper(paper))

    def test_rows_of_first_primes(self):
        for a, n in ((3, 5), (18, 3), (10, 11), (2, 11), (10, 6)):
            rows = first_primes(a, n)[1]
            self.assertEqual(read_rows(show_rows(rows)), rows)
        self.assertEqual(show_rows(first_primes(18, 3)[1]), "7^3")

    def test_numbers_of_four_thousand_figures(self):
        great = 10 ** 3999 + 7
        self.assertEqual(show_sum([great, -great]), f"2: {great} - {great}z")
        self.assertEqual(show_poly([great, -great]), f"-{great}x + {great}")
        self.assertEqual(show_wheels([(2, 0, -great)]), f"-{great} of 2 at 0")

    def test_what_is_read_is_new(self):
        for _, read, rows in ALL:
            for _, text in rows:
                one, other = read(text), read(text)
                for row in lists_in(one):
                    for another in lists_in(other):
                        self.assertIsNot(row, another)
                self.assertEqual({type(leaf) for leaf in leaves_in(one)} - {int, str}, set())

    def test_what_is_shown_is_not_changed(self):
        for show, _, rows in ALL:
            for thing, _ in rows:
                before = deepcopy(thing)
                show(thing)
                self.assertEqual(thing, before)


class Refused(Case):
    def test_each_text_bent(self):
        for show, read, rows in ALL:
            for _, text in rows:
                if len(text) < 60:
                    for bent in bent_texts(text):
                        self.check_read(read, show, bent)

    def test_the_texts_of_others(self):
        for show, read, _ in ALL:
            for _, _, rows in ALL:
                for _, text in rows:
                    if len(text) < 2000:
                        self.check_read(read, show, text)

    def test_polynomials(self):
        for text in (
            "", " ", "+1", "+x", "00", "01", "-0", "0x", "0x^2", "1x", "-1x", "1x^2", "x^1", "x^0", "2x^1", "2x^0",
            "x^02", "x^-2", "x^+2", "x^", "x2", "xx", "x^2^2", "^2", "2^2", "x + 1 + x", "1 + x", "x + x", "x^2 + x^2",
            "1 + 1", "x + 0", "0 + x", "x - 0", "x  + 1", "x +  1", " x + 1", "x + 1 ", "x+1", "x +1", "x+ 1", "x + -1",
            "x - -1", "x + +1", "x + x^2", "x^2 + 1 + x", "- x", "-x -1", "--x", "x\n", "\nx", "x\n+ 1", "X", "X^2",
            "z", "2z + 1", "3 x", "x ^2", "x^ 2", "x^2 +", "x^2 + ", "+ 1", "x * 2", "2*x", "x/2", "1.5", "1e3", "one",
            "none", "()", "x^1000", "x^1000 + 1", "2x^99999", "x^" + "9" * 70, "1" + "0" * 60, "-1" + "0" * 60,
            "1" + "0" * 60 + "x", "x - 1" + "0" * 60, "\u00b2", "x^\u00b2", "\u0661", "x + \u0661", "\uff11", "1_0",
            "1,0", "0x1", "x - 1x", "x^2 - 1x", "\t1", "1\t", "x\u00a0+ 1", "x \u2212 1", "x + 1\r", "2x^2 + 2x^2",
            "x 1", "x +", "x + 1 -",
        ):
            self.check_refused(read_poly, text)
            self.assertIsNone(plain_poly(text), text)

    def test_sums(self):
        for text in (
            "", "4", "4:", "4: ", "4:0", "4 : 0", " 4: 0", "4:  0", "4: 0 ", "04: 0", "+4: 0", "-4: 0", "0: 0", "0: 1",
            "00: 0", "1000: 0", "1000: z", "99999999: 0", "1" + "0" * 70 + ": 0", "1: z", "1: 0z", "1: z^0", "2: z^2",
            "2: z^1", "4: z^4", "4: z^5", "4: z^999", "4: 2z + z", "4: z + 1", "4: z^2 + z", "4: z^3 - z", "4: z + z",
            "4: 1 + 1", "4: +z", "4: 1z", "4: -1z", "4: 0z", "4: 0 + z", "4: z + 0", "4: z^01", "4: z^-1", "4: x",
            "4: Z", "4: 1 +z", "4: 1+ z", "4: 1 + -z", "4: - z", "4: -0", "4: 00", "4: none", "four: 0", "4: 0\n",
            "4\n: 0", "4:\n0", "\n4: 0", "4: 1" + "0" * 60, "4: -1" + "0" * 60 + "z", "4: 4: 0", "4; 0", "4 0", ": 0",
            ": ", "z", "4: z^1000", "999: z^999", "999: z^1000", "\u0664: 0", "4: \u0661", "4: z^\u00b2", "4: 1 + z - ",
            "4: ^2",
        ):
            self.check_refused(read_sum, text)
            self.assertIsNone(plain_sum(text), text)

    def test_wheels(self):
        for text in (
            "", " ", "None", "NONE", "none ", " none", "none\n", "none; none", "1 of 2 at 0; none", "none; 1 of 2 at 0",
            "0 of 2 at 0", "-0 of 2 at 0", "1 of 2 at 0;", "1 of 2 at 0; ", "; 1 of 2 at 0", "1 of 2 at 0;1 of 2 at 1",
            "1 of 2 at 0 ; 1 of 2 at 1", "1 of 2 at 0;  1 of 2 at 1", "1 of 2 at 0, 1 of 2 at 1", "1 of 2", "1 of 2 at",
            "1 of 2 at ", "of 2 at 0", "1 2 0", "1 at 2 of 0", "1 of -2 at 0", "1 of 2 at -1", "1 of -0 at 0",
            "+1 of 2 at 0", "01 of 2 at 0", "1 of 02 at 0", "1 of 2 at 00", "1  of 2 at 0", "1 of  2 at 0",
            "1 of 2 at  0", " 1 of 2 at 0", "1 of 2 at 0 ", "1 Of 2 at 0", "1 of 2 AT 0", "1 of 2 at 0\n",
            "1\nof 2 at 0", "1 of 2 at 0\n; 1 of 2 at 1", "1" + "0" * 60 + " of 2 at 0", "1 of 1" + "0" * 60 + " at 0",
            "1 of 2 at 1" + "0" * 60, "x of 2 at 0", "1 of p at j", "1 of 2 at 0 by", "1 of 2 at 0 1 of 2 at 1",
            "\u0661 of 2 at 0", "1 of 2 at 0; 0 of 2 at 1",
        ):
            self.check_refused(read_wheels, text)
            self.assertIsNone(plain_wheels(text), text)

    def test_told_things(self):
        for text in (
            "", "nought", "nought by", "nought by ", "nought none", "nought  by none", "nought by  none",
            " nought by none", "nought by none ", "Nought by none", "nought By none", "nought by None", "nought by 0",
            "nought by 0 of 2 at 0", "not", "not by none", "not  by none", "not 4: 1", "not 4: 1 by", "not 4: 1 by ",
            "not 4: 1 none", "not by 4: 1", "not 4: 1  by none", "not  4: 1 by none", "not 4 1 by none",
            "not 4: 1 by none by none", "not 1 by none", "not nought by none", "nought 4: 1 by none",
            "nought by none by none", "not 0: 0 by none", "not 4: z^4 by none", "not 4: 1 by 0 of 2 at 0",
            "not none by none", "by none", " by none", "not not 4: 1 by none", "not 4: 1 by none\n",
            "not\n4: 1 by none", "nought\nby none", "not 4: -0 by none", "not 4: 1 + 1 by none", "not 1000: 0 by none",
            "not 4: 1 by 1" + "0" * 60 + " of 2 at 0", "noughts by none", "none by none", "nought by nought by none",
        ):
            self.check_refused(read_told, text)
            self.assertIsNone(plain_told(text), text)

    def test_papers(self):
        for text in (
            "", " ", "2", "2 1", "()", "( )", "(2)", "(2 1", "2 1)", "(2 1))", "((2 1)", "((2 1))", "(2 1) ", " (2 1)",
            "(2  1)", "( 2 1)", "(2 1 )", "(2 1)\n", "(2\n1)", "(2 1 3)", "(2 1 ())", "(2 1 (2))", "(2 1 (2 1))",
            "(2 1 (2 1 3))", "(3 2 (2 1 (2 1)", "(3 2 (2 1 (2 1))", "(3 2 (2 1 (2 1))))", "(3 2(2 1 (2 1)))",
            "(3 2 (2 1(2 1)))", "(3 2  (2 1 (2 1)))", "(3 2 (2 1  (2 1)))", "(3 2 (2 1 (2 1)) )", "(3 2 (2 1 (2 1) ))",
            "(3 2 ( 2 1 (2 1)))", "(3 2 (2 1 (2 1)(2 1)))", "(3 2 (2 1 (2 1) (2 1)))", "(3 2 (2 1 2 1))", "(-3 2)",
            "(3 -2)", "(3 2 (-2 1 (2 1)))", "(3 2 (2 -1 (2 1)))", "(03 2)", "(3 02)", "(3 2 (02 1 (2 1)))",
            "(3 2 (2 01 (2 1)))", "(+3 2)", "(3 -0)", "(-0 2)", "(3, 2)", "[3 2]", "(3 2 [])", "none", "(x 2)",
            "(2 1)(2 1)", "(2 1) (2 1)", "(2 1); (2 1)", "(1" + "0" * 60 + " 1)", "(2 1" + "0" * 60 + ")",
            "(2 1 (1" + "0" * 60 + " 1 (2 1)))", "(2 1 (2 1" + "0" * 60 + " (2 1)))", "(" * 6000, ")" * 6000,
            "(2 1 " * 1200, "(3 2 (2 1 " * 600, "(\u0662 1)", "(2 1 (2 1 (2 1)) 3)", "(3 2 (2 1 (2 1)) (3 1))",
        ):
            self.check_refused(read_paper, text)
            self.assertIsNone(plain_paper(text), text)

    def test_deep_papers(self):
        twelve, more = thirteen()
        self.assertEqual(show_paper(read_paper(twelve)), twelve)
        self.assertIsNotNone(plain_paper(twelve))
        self.check_refused(read_paper, more)
        self.assertIsNone(plain_paper(more))
        self.check_refused(read_paper, f"(5 2 (2 2 (2 1)) (3 1 {twelve}))")
        self.assertEqual(len(read_paper(f"(5 2 (2 2 (2 1)) (3 1 {twelve[10:-2]}))")[2]), 2)
        deep = twelve
        for _ in range(200):
            deep = f"(3 2 (2 1 {deep}))"
        self.check_refused(read_paper, deep)

    def test_rows(self):
        for text in (
            "", " ", "None", "none ", "none none", "7 none", "none 7", "7  13", " 7", "7 ", "7^1", "7^0", "7^01",
            "7^02", "7^-2", "7^+2", "7^", "^2", "7 ^2", "7^ 2", "7^2^2", "7^2 13^1", "-7", "+7", "07", "-0", "00",
            "7; 13", "7, 13", "7\n", "7\n13", "\n7", "7 13^2\n", "x", "x^2", "1" + "0" * 60, "7^1" + "0" * 60,
            "7 1" + "0" * 60, "7^2 ", "(7)", "7\t13", "\u0667", "7^\u00b2", "7\u00b2", "7.0",
        ):
            self.check_refused(read_rows, text)
            self.assertIsNone(plain_rows(text), text)

    def test_bounds_themselves(self):
        nines = "9" * 60
        for read, text in (
            (read_poly, nines), (read_poly, "-" + nines), (read_poly, f"{nines}x^999 - {nines}"),
            (read_sum, f"1: -{nines}"), (read_sum, f"999: {nines} - z^998"),
            (read_wheels, f"-{nines} of {nines} at {nines}"),
            (read_told, f"not 999: {nines} by {nines} of {nines} at {nines}"), (read_paper, f"({nines} {nines})"),
            (read_rows, f"{nines}^{nines}"),
        ):
            self.assertEqual(repr(read(text)), repr(PLAIN[read](text)))
            self.assertIsNotNone(PLAIN[read](text))
            self.check_refused(read, text.replace(nines, nines + "9"))

    def test_by_form_alone(self):
        # Not in the order of wheels, no prime, far off, twice; papers of no prime; no rows of primes.
        self.assertEqual(read_wheels("1 of 9 at 80; 1 of 4 at 3"), [(9, 80, 1), (4, 3, 1)])
        self.assertEqual(read_told("not 2: z by 5 of 0 at 9"), ("not", [0, 1], [(0, 9, 5)]))
        self.assertEqual(read_paper("(8 0 (6 0 (5 9)) (4 7 (0 0)))"), (8, 0, [(6, 0, (5, 9, [])), (4, 7, (0, 0, []))]))
        self.assertEqual(read_rows("10 4^5 4 0^2 1"), [(10, 1), (4, 5), (4, 1), (0, 2), (1, 1)])

    def test_long_texts(self):
        for text in (
            "1" * 6000, "x + " * 1500, "0 " * 3000, "1 of 2 at 0; " * 460, "7 " * 3000, "-" * 6000, "^" * 6000,
            ";" * 6000,
        ):
            for _, read, _ in ALL:
                self.check_refused(read, text[:6000])
        text = "; ".join(["1 of 2 at 0"] * 461)
        self.assertEqual(read_wheels(text), [(2, 0, 1)] * 461)


if __name__ == "__main__":
    unittest.main()
