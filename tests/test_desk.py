"""Stage 12: points 37 to 41, with 2, 3 and 4."""

import re
import unittest
from itertools import product as every

from rootwheel import errors
from rootwheel.cosines import by_cosine, shows_cosine
from rootwheel.desk import Desk
from rootwheel.errors import NoCosine, NoDeed, NoName, NoOrder, NoPrime, NoRow, NoSize, NoText, NoUnit
from rootwheel.firsts import first_primes, prime_paper, shows_firsts, shows_prime
from rootwheel.leads import is_least_poly, keepers, least_poly, least_wheel, led, norm, rest_of, round_of, trace
from rootwheel.roots import root_poly
from rootwheel.sums import ground, nought, same, shows_not, shows_nought, spread, sum_plus, sum_times, turned
from rootwheel.texts import read_paper, read_told, show_paper, show_poly, show_rows, show_sum, show_told
from rootwheel.wholes import order, units
from tests.helpers import numbers_from, plain_primes, refusal, stream
from tests.test_texts import WHOLE, plain_paper, plain_poly, plain_rows, plain_sum, plain_told

SPECS = """wheel N, spread K, sum NAME SUM, plus NAME A B, times NAME A B, turn NAME A J, lead NAME A K, rest NAME A,
drop A, back, size, names, ground, show A, nought A, told A, same A B, trace A, norm A, keepers A, round A, least A,
poly A, cosine A, root M, order H M, firsts H M, paper Q, shows A TOLD, makes A POLY, cosines A POLY, prime Q PAPER,
all H M ROWS""".replace("\n", " ").split(", ")
KEEPING = ("wheel", "spread", "sum", "plus", "times", "turn", "lead", "rest", "drop")
SIXTY = 10 ** 60 - 1
# What is told of sums of such numbers round 30 has no more than sixty figures, too.
FIFTY = 10 ** 50
PAPER = "(7 3 (2 1 (2 1)) (3 1 (3 2 (2 1 (2 1)))))"
# A right row of each kind, for a desk that keeps a and b round 5.
RIGHT = (
    "wheel 12", "spread 2", "sum c 5: 1 - z^3", "plus c a b", "times c a b", "turn c a -7", "lead c a 3", "rest c a",
    "drop a", "back", "size", "names", "ground", "show a", "nought a", "told b", "same a b", "trace a", "norm a",
    "keepers a", "round a", "least a", "poly a", "cosine a", "root 12", "order 2 7", "firsts 3 5", "paper 7",
    "shows a not 5: 1 by none", "makes a x^2 + x - 1", "cosines a x", f"prime 7 {PAPER}", f"all 2 3 7 by {PAPER}",
)
READY = ("wheel 5", "sum a 5: z + z^4", "sum b 5: 1 + z + z^2 + z^3 + z^4")


def desk_of(*rows):
    desk = Desk()
    for row in rows:
        desk.say(row)
    return desk


def kept_by(desk):
    """All that the desk keeps, as it tells it."""
    names = desk.say("names")
    shown = [] if names == "none" else [(name, desk.say("show " + name)) for name in names.split(" ")]
    return desk.say("size"), shown


def plain_all(text):
    """Rows and papers of a rest, or None."""
    head, mark, tail = text.partition(" by ")
    papers = [] if tail == "none" else [plain_paper(part) for part in tail.split("; ")]
    return None if not mark or plain_rows(head) is None or None in papers else (plain_rows(head), papers)


class PlainDesk:
    """A desk that holds each row against its form as the document has it; refusals are told, not raised."""

    RESTS = {"SUM": plain_sum, "TOLD": plain_told, "POLY": plain_poly, "PAPER": plain_paper, "ROWS": plain_all}

    def __init__(self):
        self.states = [(1, {})]

    def answer(self, row):
        for spec in SPECS:
            kinds = spec.split(" ")[1:]
            form = " ".join([spec.split(" ")[0]] + ["(.+)" if kind in self.RESTS else "([^ ]*)" for kind in kinds])
            found = re.fullmatch(form, row, re.DOTALL)
            if found:
                return self.answer_to(spec.split(" ")[0], kinds, found.groups())
        return NoRow

    def answer_to(self, word, kinds, parts):
        n, kept = self.states[-1]
        for kind, part in zip(kinds, parts):
            if kind == "NAME" and not re.fullmatch("[a-z]{1,8}", part) or kind in "AB" and part not in kept:
                return NoName
        things = []
        for kind, part in zip(kinds, parts):
            thing = part
            if kind in "HJKMNQ":
                thing = int(part) if re.fullmatch(WHOLE, part) else None
            elif kind in self.RESTS:
                thing = self.RESTS[kind](part)
            if thing is None:
                return NoText
            things.append(thing)
        if word == "back":
            return NoDeed if len(self.states) == 1 else [self.states.pop(), "ok"][1]
        if word in KEEPING:
            state = self.kept(word, n, kept, *things)
            if isinstance(state, type):
                return state
            self.states.append(state)
            return "ok"
        try:
            return getattr(self, "tell_" + word)(n, *[kept.get(thing, thing) if kind in ("A", "B") else thing
                                                     for kind, thing in zip(kinds, things)])
        except ValueError as error:
            return type(error)

    def kept(self, word, n, kept, first, *more):
        if word in ("wheel", "spread"):
            many = first if word == "wheel" else first * n
            if not 1 <= many <= 60:
                return NoSize
            return many, {} if word == "wheel" else {name: spread(some, first) for name, some in kept.items()}
        if word == "drop":
            return n, {name: some for name, some in kept.items() if name != first}
        if word == "sum":
            return (n, {**kept, first: more[0]}) if len(more[0]) == n else NoSize
        some, rest = kept[more[0]], more[1:]
        if word == "lead" and rest[0] not in units(n):
            return NoUnit
        worth = {
            "plus": lambda: sum_plus(some, kept[rest[0]]), "times": lambda: sum_times(some, kept[rest[0]]),
            "turn": lambda: turned(some, rest[0]), "lead": lambda: led(some, rest[0]), "rest": lambda: rest_of(some),
        }[word]()
        return n, {**kept, first: worth}

    def tell_size(self, n):
        return str(n)

    def tell_names(self, n):
        return " ".join(sorted(self.states[-1][1])) or "none"

    def tell_ground(self, n):
        return " ".join(map(str, ground(n)))

    def tell_show(self, n, a):
        return show_sum(a)

    def tell_nought(self, n, a):
        return "no" if any(rest_of(a)) else "yes"

    def tell_told(self, n, a):
        return show_told(nought(a))

    def tell_same(self, n, a, b):
        return "yes" if same(a, b) else "no"

    def tell_trace(self, n, a):
        return str(trace(a))

    def tell_norm(self, n, a):
        return str(norm(a))

    def tell_keepers(self, n, a):
        return " ".join(map(str, keepers(a)))

    def tell_round(self, n, a):
        return "; ".join(map(show_sum, round_of(a)))

    def tell_least(self, n, a):
        return show_sum(least_wheel(a)[1])

    def tell_poly(self, n, a):
        return show_poly(least_poly(a))

    def tell_cosine(self, n, a):
        return show_poly(by_cosine(a))

    def tell_root(self, n, m):
        return show_poly(root_poly(m)) if 1 <= m <= 60 else NoSize

    def tell_order(self, n, h, m):
        return str(order(h, m)) if 1 <= m <= 999 else NoSize

    def tell_firsts(self, n, h, m):
        if h not in range(2, 11) or m not in range(1, 13):
            return NoSize
        word, told = first_primes(h, m)
        return show_rows(told) if word == "primes" else "none " + told

    def tell_paper(self, n, q):
        if q > 1000000:
            return NoSize
        return show_paper(prime_paper(q)) if plain_primes(max(q, 1)) == [q] else NoPrime

    def tell_shows(self, n, a, told):
        return "yes" if shows_nought(a, told) or shows_not(a, told) else "no"

    def tell_makes(self, n, a, f):
        return "yes" if f and is_least_poly(a, f) else "no"

    def tell_cosines(self, n, a, f):
        return "yes" if shows_cosine(a, f) else "no"

    def tell_prime(self, n, q, paper):
        return "yes" if shows_prime(q, paper) else "no"

    def tell_all(self, n, h, m, told):
        if h not in range(2, 11) or m not in range(1, 13):
            return NoSize
        return "yes" if shows_firsts(h, m, *told) else "no"


class Case(unittest.TestCase):
    def ready(self):
        return desk_of(*READY)

    def check(self, desk, *pairs):
        """Each row has its answer, or its refusal, which changes nothing."""
        for row, answer in pairs:
            if isinstance(answer, str):
                self.assertEqual(desk.say(row), answer, row)
            else:
                before = kept_by(desk)
                self.assertIs(refusal_of(desk, row), answer, row)
                self.assertEqual(kept_by(desk), before, row)

    def check_alike(self, desk, plain, row):
        told = plain.answer(row)
        if isinstance(told, str):
            self.assertEqual(desk.say(row), told, row)
        else:
            self.assertIs(refusal_of(desk, row), told, row)


def refusal_of(desk, row):
    """The class of the refusal, or None; the desk is not copied."""
    try:
        desk.say(row)
    except ValueError as error:
        return type(error)
    return None


class Forms(Case):
    def test_each_row_has_one_right_form(self):
        self.assertEqual([row.split(" ")[0] for row in RIGHT], [spec.split(" ")[0] for spec in SPECS])
        for row in RIGHT:
            told = self.ready().say(row)
            self.assertIs(type(told), str)
            self.assertNotEqual(told, "")
            plain = PlainDesk()
            for ahead in READY:
                self.assertEqual(plain.answer(ahead), "ok")
            self.assertEqual(plain.answer(row), told, row)

    def test_a_word_left_out(self):
        for row, spec in zip(RIGHT, SPECS):
            words, kinds = row.split(" "), spec.split(" ")
            for many in range(1, len(kinds)):
                self.check(self.ready(), (" ".join(words[:many]), NoRow))
            if kinds[-1] in PlainDesk.RESTS:
                # The rest begins with what is left of it, one sign or more.
                self.check(self.ready(), (" ".join(words[:len(kinds) - 1]) + " ", NoRow))

    def test_a_word_too_many(self):
        for row, spec in zip(RIGHT, SPECS):
            rest = spec.split(" ")[-1] in PlainDesk.RESTS
            for more in (" a", " 1", " ", "  ", " x y", " \n", " none"):
                self.check(self.ready(), (row + more, NoText if rest else NoRow))

    def test_needless_rests(self):
        for row, spec in zip(RIGHT, SPECS):
            if spec.split(" ")[-1] not in PlainDesk.RESTS:
                for more in (" 5: 0", " x + 1", " not 5: 1 by none", " " + PAPER):
                    self.check(self.ready(), (row + more, NoRow))

    def test_blanks(self):
        for row, spec in zip(RIGHT, SPECS):
            kinds = spec.split(" ")
            self.check(self.ready(), (" " + row, NoRow), ("  " + row, NoRow))
            if kinds[-1] not in PlainDesk.RESTS:
                self.check(self.ready(), (row + " ", NoRow))
                words = row.split(" ")
                for at in range(1, len(words)):
                    self.check(self.ready(), (" ".join(words[:at]) + "  " + " ".join(words[at:]), NoRow))
        # With a rest, a word of no sign stands between two blanks: no name, no number, or ahead of no rest.
        self.check(
            self.ready(), ("sum  c 5: 0", NoName), ("sum c  5: 0", NoText), ("prime  7 (2 1)", NoText),
            ("shows  a nought by none", NoName), ("shows a  nought by none", NoText), ("all  2 3 7 by none", NoText),
            ("makes  a x", NoName), ("sum c 5:  0", NoText), ("sum  ", NoRow), ("sum   ", NoName), ("sum a  ", NoText),
        )
        # So it is where words and blanks are just as many as they should be.
        self.check(
            self.ready(), ("show ", NoName), ("same a ", NoName), ("same  a", NoName), ("wheel ", NoText),
            ("order  7", NoText), ("order 2 ", NoText), ("order  ", NoText), ("plus c a ", NoName),
            ("plus  a b", NoName), ("turn c a ", NoText), ("paper ", NoText), ("drop ", NoName), ("rest  a", NoName),
            ("rest c ", NoName),
        )

    def test_great_letters(self):
        for row in RIGHT:
            word = row.split(" ")[0]
            for bent in (row.upper(), word.upper() + row[len(word):], row.capitalize()):
                self.check(self.ready(), (bent, NoRow))

    def test_line_ends_and_other_signs_in_the_first_word(self):
        for row in RIGHT:
            word = row.split(" ")[0]
            for sign in "\n\t\r\f\x0b\x1c\x85\u2028\u00a0.:-\u200b":
                for bent in (word + sign, sign + word, word[:2] + sign + word[2:]):
                    self.check(self.ready(), (bent + row[len(word):], NoRow))
            if " " in row:
                for sign in "\n\t":
                    self.check(self.ready(), (row.replace(" ", sign, 1), NoRow))

    def test_line_ends_behind(self):
        for row, spec in zip(RIGHT, SPECS):
            kinds = spec.split(" ")
            refused = NoRow if len(kinds) == 1 else NoName if kinds[-1] in "AB" else NoText
            self.check(self.ready(), (row + "\n", refused))

    def test_rows_that_are_none(self):
        self.check(
            self.ready(), ("", NoRow), (" ", NoRow), ("\n", NoRow), ("a", NoRow), ("wheels 4", NoRow), ("siz", NoRow),
            ("sizes", NoRow), ("N", NoRow), ("say size", NoRow), ("none", NoRow), ("ok", NoRow), ("yes", NoRow),
            ("sum", NoRow), ("back back", NoRow), ("\u017fize", NoRow), ("exit", NoRow), ("NAME", NoRow), ("0", NoRow),
        )

    def test_words_of_each_spec_and_one_another(self):
        # The form of each row behind the first word of each other one.
        for row in RIGHT:
            for spec in SPECS:
                bent = spec.split(" ")[0] + row[len(row.split(" ")[0]):]
                desk, plain = self.ready(), PlainDesk()
                for ahead in READY:
                    plain.answer(ahead)
                self.check_alike(desk, plain, bent)

    def test_each_right_row_bent(self):
        """One sign left out, put in, or exchanged, against a desk that is made of forms alone."""
        for row in RIGHT:
            for at in range(len(row) + 1):
                bent = [row[:at] + row[at + 1:], row[:at] + row[at:at + 1] + row[at:]]
                for sign in " 0-a\n:x":
                    bent += [row[:at] + sign + row[at:], row[:at] + sign + row[at + 1:]]
                desk, plain = self.ready(), PlainDesk()
                for ahead in READY:
                    plain.answer(ahead)
                for other in bent:
                    self.check_alike(desk, plain, other)
                shown = [(name, show_sum(some)) for name, some in sorted(plain.states[-1][1].items())]
                self.assertEqual(kept_by(desk), (plain.answer("size"), shown))


class Names(Case):
    def test_right_names(self):
        for name in ("a", "z", "abcdefgh", "zzzzzzzz", "sum", "size", "none", "back", "wheel", "x", "all"):
            self.check(desk_of("sum a 1: 5"), (f"sum {name} 1: 3", "ok"), (f"show {name}", "1: 3"))
            self.check(desk_of("sum a 1: 5"), (f"rest {name} a", "ok"), (f"show {name}", "1: 5"))

    def test_no_names(self):
        for name in (
            "", "abcdefghi", "A", "aB", "a1", "1", "-", "_", "a_b", "a-b", "a.b", "\u00e4", "\u00df", "\u0430", "a\n",
            "\na", "a\t", "\t", "a;", "(a)", "NAME", "\u017f", "abcdefgh\n", "a\u00a0b", "\uff41",
        ):
            self.check(
                self.ready(), (f"sum {name} 5: 0", NoName), (f"plus {name} a b", NoName), (f"times {name} a b", NoName),
                (f"turn {name} a 1", NoName), (f"lead {name} a 1", NoName), (f"rest {name} a", NoName),
                (f"show {name}", NoName), (f"drop {name}", NoName), (f"same {name} a", NoName),
                (f"same a {name}", NoName),
            )

    def test_names_by_which_no_sum_stands(self):
        for word in SPECS:
            kinds = word.split(" ")[1:]
            for at, kind in enumerate(kinds):
                if kind in ("A", "B"):
                    parts = {"NAME": "c", "A": "a", "B": "b", "J": "1", "K": "1", "TOLD": "nought by none", "POLY": "x"}
                    words = [parts[other] for other in kinds]
                    words[at] = "d"
                    self.check(self.ready(), (" ".join(word.split(" ")[:1] + words), NoName))
        # It stands only behind this row.
        self.check(self.ready(), ("plus d d a", NoName), ("rest d d", NoName), ("same c c", NoName))

    def test_in_the_order_of_texts(self):
        desk = Desk()
        self.assertEqual(desk.say("names"), "none")
        for name in ("b", "a", "ab", "zz", "aa", "z", "b"):
            desk.say(f"sum {name} 1: 1")
        self.assertEqual(desk.say("names"), "a aa ab b z zz")


class OrderOfRefusals(Case):
    def test_no_row_goes_ahead(self):
        self.check(
            self.ready(), ("plus ? ? ", NoName), ("plus ? ?", NoRow), ("plus ? ? ? ?", NoRow), ("sum ?", NoRow),
            ("wheel x y", NoRow), ("shows ?", NoRow), ("makes ? ", NoRow), ("all x y", NoRow), ("all x y ", NoRow),
            ("prime x ", NoRow), ("size ?", NoRow), ("back x", NoRow),
        )

    def test_no_name_goes_ahead_of_no_text(self):
        self.check(
            self.ready(), ("sum ? ?", NoName), ("turn c d x", NoName), ("turn ? a x", NoName), ("lead c d x", NoName),
            ("shows d ?", NoName), ("makes d ?", NoName), ("cosines d ?", NoName), ("sum ? 4: 0", NoName),
            ("lead ? a 0", NoName), ("lead c d 0", NoName), ("sum a ?", NoText), ("turn c a x", NoText),
            ("lead c a x", NoText), ("shows a ?", NoText),
        )

    def test_no_text_goes_ahead_of_the_rest(self):
        self.check(
            self.ready(), ("order 7 x", NoText), ("order x 0", NoText), ("order x 1000", NoText),
            ("firsts x 99", NoText), ("firsts 99 x", NoText), ("all 99 1 ?", NoText), ("all 1 x none by none", NoText),
            ("prime 0 ?", NoText), ("all 99 99 none by none", NoSize), ("all 99 99 none", NoText),
            ("sum a 4: z^4", NoText), ("sum a 4: z^3", NoSize), ("lead c a 05", NoText), ("lead c a 5", NoUnit),
        )

    def test_numbers(self):
        rows = ("wheel {}", "spread {}", "turn c a {}", "lead c a {}", "root {}", "order {} 7", "order 7 {}",
                "firsts {} 2", "firsts 2 {}", "paper {}", "prime {} (2 1)", "all {} 2 none by none",
                "all 2 {} none by none")
        for word in (
            "", "+1", "01", "-0", "00", "--1", "1-", "-", "1.0", "1e1", "x", "one", "\u0661", "\u00b2", "1_0", "0x1",
            "1\n", "\n1", "1\t", "9" * 61, "-" + "9" * 61, "0" * 5, "A",
        ):
            for row in rows:
                self.check(self.ready(), (row.format(word), NoText))
        for word in ("9" * 60, "-" + "9" * 60):
            self.check(
                self.ready(), (f"wheel {word}", NoSize), (f"spread {word}", NoSize), (f"lead c a {word}", NoUnit),
                (f"root {word}", NoSize), (f"order 7 {word}", NoSize), (f"firsts {word} 2", NoSize),
                (f"paper {word}", NoPrime if word[0] == "-" else NoSize), (f"prime {word} (2 1)", "no"),
                (f"turn c a {word}", "ok"), ("show c", show_sum(turned([0, 1, 0, 0, 1], int(word)))),
                (f"order {word} 17", str(order(int(word), 17))),
            )


class Keeping(Case):
    def test_a_new_desk(self):
        self.check(Desk(), ("size", "1"), ("names", "none"), ("ground", "0"), ("back", NoDeed), ("show a", NoName))
        self.check(Desk(), ("sum a 1: -3", "ok"), ("show a", "1: -3"), ("sum a 2: 0", NoSize))

    def test_wheel(self):
        for n in range(1, 61):
            desk = self.ready()
            self.check(desk, (f"wheel {n}", "ok"), ("size", str(n)), ("names", "none"), ("show a", NoName))
        for n in ("0", "-1", "-60", "61", "62", "305", "999", "1" + "0" * 59):
            self.check(self.ready(), (f"wheel {n}", NoSize))
        # The n itself again: no sum is kept all the same.
        self.check(self.ready(), ("wheel 5", "ok"), ("names", "none"), ("back", "ok"), ("names", "a b"))

    def test_spread(self):
        self.check(
            self.ready(), ("spread 0", NoSize), ("spread -1", NoSize), ("spread 13", NoSize), ("spread 60", NoSize),
            ("spread 1", "ok"), ("size", "5"), ("show a", "5: z + z^4"), ("spread 3", "ok"), ("size", "15"),
            ("show a", "15: z^3 + z^12"), ("show b", "15: 1 + z^3 + z^6 + z^9 + z^12"), ("spread 5", NoSize),
            ("spread 4", "ok"), ("size", "60"), ("show a", "60: z^12 + z^48"), ("spread 2", NoSize), ("spread 1", "ok"),
        )
        self.check(Desk(), ("spread 60", "ok"), ("size", "60"))
        self.check(Desk(), ("spread 61", NoSize), ("size", "1"))
        self.check(desk_of("wheel 7"), ("spread 8", "ok"), ("size", "56"))
        self.check(desk_of("wheel 7"), ("spread 9", NoSize), ("spread -9", NoSize), ("size", "7"))

    def test_sum(self):
        self.check(
            self.ready(), ("sum c 5: 0", "ok"), ("show c", "5: 0"), ("sum c 5: -z^4", "ok"), ("show c", "5: -z^4"),
            ("sum c 4: 0", NoSize), ("sum c 6: 0", NoSize), ("sum c 1: 1", NoSize), ("sum c 10: z^2", NoSize),
            ("sum c 999: z", NoSize), ("sum c 5: z^5", NoText), ("show c", "5: -z^4"), ("sum a 5: 1", "ok"),
            ("show a", "5: 1"), (f"sum a 5: {SIXTY} - {SIXTY}z", "ok"), ("show a", f"5: {SIXTY} - {SIXTY}z"),
        )

    def test_plus_and_times(self):
        self.check(
            desk_of("wheel 4", "sum a 4: 1 + z", "sum b 4: 2 - z^3"), ("plus c a b", "ok"),
            ("show c", "4: 3 + z - z^3"), ("times c a b", "ok"), ("show c", "4: 1 + 2z - z^3"), ("times a a b", "ok"),
            ("show a", "4: 1 + 2z - z^3"), ("plus b b b", "ok"), ("show b", "4: 4 - 2z^3"), ("times b b b", "ok"),
            ("show b", "4: 16 + 4z^2 - 16z^3"), ("times a b a", "ok"),
            ("show a", show_sum(sum_times([16, 0, 4, -16], [1, 2, 0, -1]))), ("names", "a b c"),
        )

    def test_turn_lead_and_rest(self):
        self.check(
            desk_of("wheel 6", "sum a 6: 1 + 2z - z^4"), ("turn b a 1", "ok"), ("show b", "6: z + 2z^2 - z^5"),
            ("turn b a -1", "ok"), ("show b", "6: 2 - z^3 + z^5"), ("turn b a 600", "ok"),
            ("show b", "6: 1 + 2z - z^4"), ("turn a a 7", "ok"), ("show a", "6: z + 2z^2 - z^5"), ("lead b a 5", "ok"),
            ("show b", "6: -z + 2z^4 + z^5"), ("lead b a 1", "ok"), ("show b", "6: z + 2z^2 - z^5"),
            ("lead b a 0", NoUnit), ("lead b a 2", NoUnit), ("lead b a 3", NoUnit), ("lead b a 6", NoUnit),
            ("lead b a 7", NoUnit), ("lead b a -1", NoUnit), ("lead a a 5", "ok"), ("show a", "6: -z + 2z^4 + z^5"),
            ("rest c a", "ok"), ("show c", show_sum(rest_of([0, -1, 0, 0, 2, 1]))), ("same a c", "yes"),
            ("rest a a", "ok"), ("same a c", "yes"),
        )
        self.check(desk_of("sum a 1: 4"), ("lead b a 1", NoUnit), ("lead b a 0", "ok"), ("show b", "1: 4"))

    def test_all_units(self):
        for n in (1, 2, 3, 8, 12, 30, 60):
            desk = desk_of(f"wheel {n}", f"sum a {n}: 1")
            for k in range(-n - 1, 2 * n + 2):
                self.check(desk, (f"lead b a {k}", "ok" if k in units(n) else NoUnit))

    def test_drop(self):
        self.check(
            self.ready(), ("drop a", "ok"), ("names", "b"), ("show a", NoName), ("drop a", NoName), ("drop b", "ok"),
            ("names", "none"), ("size", "5"), ("back", "ok"), ("back", "ok"), ("names", "a b"),
            ("show a", "5: z + z^4"),
        )

    def test_what_is_refused_changes_nothing(self):
        for row in RIGHT + ("wheel 61", "spread 13", "sum a 4: 0", "lead b a 5", "root 61", "order 5 5", "paper 9"):
            for bent in (row, row + " ", " " + row, row.upper(), row.replace(" a", " ?"), row.replace(" 2", " x")):
                desk = desk_of(*READY, "sum d 5: 7")
                before = kept_by(desk)
                if refusal_of(desk, bent) is not None:
                    self.assertEqual(kept_by(desk), before)
                    # The last row that kept something is still the one that is taken back.
                    self.check(desk, ("back", "ok"), ("names", "a b"))


class Back(Case):
    KEPT = (
        "wheel 4", "sum a 4: 1 + z", "sum b 4: z^3", "plus c a b", "times a a b", "turn c c 3", "lead b a 3",
        "rest a b",
        "drop c", "spread 3", "sum a 12: z^11", "rest d a", "wheel 7", "sum a 7: z", "drop a", "wheel 7", "spread 1",
    )

    def test_over_each_row_that_keeps(self):
        desk, seen = Desk(), []
        for row in self.KEPT:
            seen.append(kept_by(desk))
            self.check(desk, (row, "ok"))
            after = kept_by(desk)
            self.check(desk, ("back", "ok"))
            self.assertEqual(kept_by(desk), seen[-1])
            self.check(desk, (row, "ok"))
            self.assertEqual(kept_by(desk), after)
        for before in reversed(seen):
            self.check(desk, ("back", "ok"))
            self.assertEqual(kept_by(desk), before)
        self.check(desk, ("back", NoDeed), ("back", NoDeed), ("size", "1"), ("names", "none"))

    def test_it_is_forgotten(self):
        # What was taken back is not there to be taken back, nor kept again.
        self.check(
            Desk(), ("sum a 1: 1", "ok"), ("sum a 1: 2", "ok"), ("back", "ok"), ("show a", "1: 1"),
            ("sum a 1: 3", "ok"), ("back", "ok"), ("show a", "1: 1"), ("back", "ok"), ("names", "none"),
            ("back", NoDeed), ("sum b 1: 1", "ok"), ("names", "b"), ("back", "ok"), ("back", NoDeed),
        )

    def test_over_wheel_and_spread(self):
        self.check(
            self.ready(), ("spread 2", "ok"), ("wheel 3", "ok"), ("names", "none"), ("back", "ok"), ("size", "10"),
            ("show a", "10: z^2 + z^8"), ("back", "ok"), ("size", "5"), ("show a", "5: z + z^4"), ("back", "ok"),
            ("names", "a"), ("back", "ok"), ("names", "none"), ("size", "5"), ("back", "ok"), ("size", "1"),
            ("back", NoDeed),
        )

    def test_behind_refused_rows_and_rows_that_ask(self):
        desk = self.ready()
        for row in (
            "sum a 4: 0", "wheel 99", "show a", "names", "lead a a 5", "back now", "told a", "cosine a", "drop z",
        ):
            refusal_of(desk, row)
        self.check(desk, ("back", "ok"), ("names", "a"), ("show a", "5: z + z^4"))

    def test_a_row_that_changes_nothing_is_taken_back_all_the_same(self):
        self.check(
            self.ready(), ("turn a a 0", "ok"), ("spread 1", "ok"), ("lead a a 1", "ok"), ("sum a 5: z + z^4", "ok"),
            ("back", "ok"), ("back", "ok"), ("back", "ok"), ("back", "ok"), ("names", "a b"), ("back", "ok"),
            ("names", "a"),
        )

    def test_many_rows(self):
        desk = Desk()
        for k in range(700):
            desk.say(f"sum a 1: {k}")
        for k in range(698, -1, -1):
            desk.say("back")
        self.check(desk, ("show a", "1: 0"), ("back", "ok"), ("names", "none"), ("back", NoDeed))


class Asking(Case):
    def test_rows_that_ask(self):
        self.check(
            self.ready(), ("size", "5"), ("names", "a b"), ("ground", "0 1 2 3"), ("show a", "5: z + z^4"),
            ("nought a", "no"), ("nought b", "yes"), ("told b", "nought by 1 of 5 at 0"), ("same a a", "yes"),
            ("same a b", "no"), ("trace a", "-2"), ("norm a", "1"), ("keepers a", "1 4"), ("keepers b", "1 2 3 4"),
            ("round a", "5: -1 - z^2 - z^3; 5: z^2 + z^3"), ("round b", "5: 0"), ("least b", "1: 0"),
            ("least a", "5: -1 - z^2 - z^3"), ("poly a", "x^2 + x - 1"), ("poly b", "x"), ("cosine a", "x"),
            ("cosine b", "0"), ("root 1", "x - 1"), ("root 60", show_poly(root_poly(60))), ("root 0", NoSize),
            ("root 61", NoSize), ("root -3", NoSize), ("order 2 7", "3"), ("order -1 7", "2"), ("order 0 1", "1"),
            ("order 10 999", "3"), ("order 10 1000", NoSize), ("order 10 0", NoSize), ("order 10 -7", NoSize),
            ("order 6 9", NoOrder), ("order 0 5", NoOrder), ("order 2 1000", NoSize), ("firsts 3 5", "11^2"),
            ("firsts 2 6", "none six"), ("firsts 3 2", "none two"), ("firsts 2 1", "none one"), ("firsts 10 6", "7 13"),
            ("firsts 10 12", "9901"), ("firsts 1 6", NoSize), ("firsts 11 6", NoSize), ("firsts 2 0", NoSize),
            ("firsts 2 13", NoSize), ("firsts 0 0", NoSize), ("firsts -2 5", NoSize), ("firsts 10 11", "21649 513239"),
            ("firsts 9 1", "2^3"), ("paper 2", "(2 1)"), ("paper 3", "(3 2 (2 1 (2 1)))"), ("paper 4", NoPrime),
            ("paper 1", NoPrime), ("paper 0", NoPrime), ("paper -7", NoPrime), ("paper 1000000", NoPrime),
            ("paper 1000001", NoSize), ("paper 1000003", NoSize), ("paper 561", NoPrime), ("paper 999999", NoPrime),
        )

    def test_papers(self):
        for q in (2, 3, 5, 7, 13, 257, 7919, 138197, 999983):
            text = Desk().say(f"paper {q}")
            self.assertIs(shows_prime(q, read_paper(text)), True)
            self.check(Desk(), (f"prime {q} {text}", "yes"), (f"prime {q + 1} {text}", "no"))
            self.check(Desk(), (f"prime -{q} {text}", "no"), (f"prime {q}0 {text}", "no"))

    def test_each_row_as_the_functions_tell(self):
        for n in (1, 2, 3, 4, 6, 8, 9, 12, 15, 21, 30):
            source = stream(n)
            for some in ([0] * n, [1] * n, numbers_from(source, n, -5, 5), numbers_from(source, n, -FIFTY, FIFTY)):
                other = [some[-place % n] + number for place, number in enumerate(some)]
                desk = desk_of(f"wheel {n}", f"sum a {show_sum(some)}", f"sum b {show_sum(other)}")
                for row, told in (
                    ("show a", show_sum(some)), ("trace a", str(trace(some))), ("norm a", str(norm(some))),
                    ("keepers a", " ".join(map(str, keepers(some)))), ("least a", show_sum(least_wheel(some)[1])),
                    ("poly a", show_poly(least_poly(some))), ("round a", "; ".join(map(show_sum, round_of(some)))),
                    ("cosine b", show_poly(by_cosine(other))),
                    ("same a b", "yes" if same(some, other) else "no"),
                    ("nought a", "no" if any(rest_of(some)) else "yes"), ("ground", " ".join(map(str, ground(n)))),
                ):
                    if len(told) < 4000:
                        self.assertEqual(desk.say(row), told)
                        self.assertEqual(desk.say(row), told)
                told = read_told(desk.say("told a"))
                self.assertTrue(shows_nought(some, told) or shows_not(some, told))

    def test_great_numbers(self):
        desk = desk_of("wheel 4", f"sum a 4: {SIXTY} + {SIXTY}z", "times a a a", "times a a a")
        some = [SIXTY, SIXTY, 0, 0]
        for _ in range(2):
            some = sum_times(some, some)
        for _ in range(4):
            desk.say("times a a a")
            some = sum_times(some, some)
        text = show_sum(some)
        self.assertGreater(len(text), 3800)
        self.check(desk, ("show a", text), ("nought a", "no"), ("same a a", "yes"))
        self.check(desk, ("keepers a", " ".join(map(str, keepers(some)))))
        self.check(desk, ("trace a", str(trace(some))), ("rest b a", "ok"), ("show b", show_sum(rest_of(some))))

    def test_no_cosine(self):
        desk = desk_of("wheel 5", "sum a 5: z")
        self.check(desk, ("cosine a", NoCosine), ("cosines a x", "no"), ("cosines a 0", "no"))

    def test_asked_again(self):
        desk = self.ready()
        rows = [row for row in RIGHT if row.split(" ")[0] not in KEEPING + ("back",)]
        first = [desk.say(row) for row in rows]
        for row in ("sum c 4: 0", "wheel x", "?", "cosine d"):
            self.assertIsNotNone(refusal_of(desk, row))
        self.assertEqual([desk.say(row) for row in reversed(rows)], first[::-1])
        # Behind a row that keeps something it is that of what is kept then; behind back that of what was kept.
        self.assertEqual(desk.say("sum a 5: 2"), "ok")
        self.check(desk, ("show a", "5: 2"), ("norm a", "16"), ("poly a", "x - 2"), ("cosine a", "2"))
        self.check(desk, ("round a", "5: 2"), ("keepers a", "1 2 3 4"))
        self.assertEqual(desk.say("back"), "ok")
        self.assertEqual([desk.say(row) for row in rows], first)


class Looking(Case):
    def test_shows(self):
        self.check(
            desk_of("wheel 4", "sum a 4: 1 + z^2", "sum b 4: 1", "sum c 4: 0"),
            ("shows a nought by 1 of 2 at 0", "yes"), ("shows a nought by 2 of 2 at 0", "no"),
            ("shows a nought by none", "no"), ("shows c nought by none", "yes"), ("shows b nought by none", "no"),
            ("shows b not 4: 1 by none", "yes"), ("shows b not 4: 1 by 1 of 2 at 0", "no"),
            ("shows b not 4: -z^2 by 1 of 2 at 0", "no"), ("shows a not 4: 0 by 1 of 2 at 0", "no"),
            ("shows b not 2: 1 by none", "no"), ("shows b not 1: 1 by none", "no"),
            ("shows b not 999: 1 by none", "no"), ("shows a nought by 1 of 1 at 0", "no"),
            ("shows a nought by 1 of 0 at 0", "no"), ("shows a nought by 1 of 2 at 2", "no"),
            ("shows a nought by 1 of 4 at 0", "no"), ("shows a nought by 1 of 2 at 0; 1 of 2 at 0", "no"),
            ("shows a nought by 0 of 2 at 0", NoText), ("shows a nought", NoText), ("shows a none", NoText),
            ("shows a not by none", NoText), ("shows a x", NoText), ("shows c not 4: 0 by none", "no"),
            (f"shows a nought by {SIXTY} of {SIXTY} at {SIXTY}", "no"),
        )
        for n in (1, 6, 12, 60):
            for some in ([0] * n, [1] * n, [5] + [0] * (n - 1), numbers_from(stream(n), n, -9, 9)):
                desk = desk_of(f"wheel {n}", f"sum a {show_sum(some)}", f"sum b {show_sum([some[0] + 1] + some[1:])}")
                self.check(desk, ("shows a " + desk.say("told a"), "yes"), ("shows b " + desk.say("told a"), "no"))

    def test_makes_and_cosines(self):
        self.check(
            self.ready(), ("makes a x^2 + x - 1", "yes"), ("makes a 0", "no"), ("makes a 1", "no"), ("makes a x", "no"),
            ("makes a x^2 + x + 1", "no"), ("makes a -x^2 - x + 1", "no"), ("makes a 2x^2 + 2x - 2", "no"),
            ("makes a x^3 + x^2 - x", "no"), ("makes b x", "yes"), ("makes b 0", "no"), ("makes b x - 1", "no"),
            ("makes a x - 1 + x^2", NoText), ("makes a none", NoText), ("makes a x^999", "no"),
            ("makes a x^1000", NoText), ("cosines a x", "yes"), ("cosines a 0", "no"), ("cosines a -x", "no"),
            ("cosines a x^2 + 2x - 1", "no"), ("cosines b 0", "yes"), ("cosines b x^2 + x - 1", "no"),
            ("cosines b 1", "no"), ("cosines a x\n", NoText),
        )

    def test_prime(self):
        self.check(
            Desk(), (f"prime 7 {PAPER}", "yes"), ("prime 7 (7 5 (2 1 (2 1)) (3 1 (3 2 (2 1 (2 1)))))", "yes"),
            ("prime 7 (7 2 (2 1 (2 1)) (3 1 (3 2 (2 1 (2 1)))))", "no"), (f"prime 3 {PAPER}", "no"),
            ("prime 2 (2 1)", "yes"), ("prime 2 (2 0)", "no"), ("prime 1 (1 1)", "no"), ("prime 0 (0 0)", "no"),
            ("prime -7 (7 3)", "no"), ("prime 9 (9 2 (2 3 (2 1)))", "no"), ("prime 7 none", NoText),
            ("prime 7 7", NoText), ("prime 7 (7)", NoText), (f"prime 2 (2 1 (2 {SIXTY} (2 1)))", "no"),
            (f"prime 3 (3 2 (2 {SIXTY} (2 1)))", "no"), ("prime 3 (3 2 (1 0 (2 1)))", "no"),
            ("prime 2 (2 1 (2 0 (2 1)))", "no"), (f"prime {SIXTY} ({SIXTY} 2)", "no"), ("prime 2 (2 1) ", NoText),
            ("prime 2 (2 1)\n", NoText), (f"prime 7 {PAPER}; {PAPER}", NoText),
        )

    def test_all(self):
        eleven = "(11 2 (2 1 (2 1)) (5 1 (5 2 (2 2 (2 1)))))"
        self.check(
            Desk(), (f"all 3 5 11^2 by {eleven}", "yes"), (f"all 3 5 11 by {eleven}", "no"),
            ("all 3 5 none by none", "no"), (f"all 3 5 11^3 by {eleven}", "no"),
            (f"all 3 5 11^{SIXTY} by {eleven}", "no"), ("all 3 5 11^2 by none", "no"),
            (f"all 3 5 11^2 by {eleven}; {eleven}", "no"), (f"all 3 5 11^2 by {PAPER}", "no"),
            ("all 2 6 none by none", "yes"), ("all 2 1 none by none", "yes"), ("all 3 2 none by none", "yes"),
            ("all 7 2 none by none", "yes"), ("all 2 6 3 by (3 2 (2 1 (2 1)))", "no"), (f"all 2 3 7 by {PAPER}", "yes"),
            ("all 2 2 none by none", "no"), (f"all 2 3 7^1 by {PAPER}", NoText), (f"all 2 3 7 {PAPER}", NoText),
            (f"all 2 3 7 by  {PAPER}", NoText), (f"all 2 3 7  by {PAPER}", NoText), (f"all 2 3 by {PAPER}", NoText),
            ("all 2 3 7 by", NoText), ("all 2 3 7 by ", NoText), ("all 2 3 7 by nothing", NoText),
            (f"all 2 3 7 by {PAPER};{PAPER}", NoText), (f"all 2 3 7 by {PAPER}; none", NoText),
            (f"all 2 3 7 by {PAPER} by none", NoText), ("all 2 3 by none", NoText), (f"all 2 3 7 by {PAPER}; ", NoText),
            ("all 2 3 none by none ", NoText), ("all 2 3 none by none\n", NoText), ("all 1 3 none by none", NoSize),
            ("all 11 3 none by none", NoSize), ("all 2 0 none by none", NoSize), ("all 2 13 none by none", NoSize),
            (f"all 11 3 7 by {PAPER}", NoSize), ("all 11 3 7 by none none", NoText),
        )

    def test_all_of_all_firsts(self):
        desk = Desk()
        for h, m in every(range(2, 11), range(1, 13)):
            told = desk.say(f"firsts {h} {m}")
            primes = [] if told.startswith("none") else [row.split("^")[0] for row in told.split(" ")]
            # Of greater primes the desk tells no paper.
            if all(int(q) <= 1000000 for q in primes):
                rows = told if primes else "none"
                papers = "; ".join([desk.say(f"paper {q}") for q in primes]) or "none"
                self.check(desk, (f"all {h} {m} {rows} by {papers}", "yes"))
                self.check(desk, (f"all {h} {m} none by none", "no" if primes else "yes"))
                self.check(desk, (f"all {h} {m} {rows} by none", "no" if primes else "yes"))


class TwoDesks(Case):
    def test_they_know_nothing_of_one_another(self):
        one, other = self.ready(), Desk()
        self.check(other, ("size", "1"), ("names", "none"), ("back", NoDeed), ("show a", NoName))
        self.check(other, ("wheel 3", "ok"), ("sum a 3: 1", "ok"))
        self.check(one, ("show a", "5: z + z^4"), ("size", "5"), ("names", "a b"), ("back", "ok"), ("names", "a"))
        self.check(other, ("show a", "3: 1"), ("back", "ok"), ("names", "none"), ("size", "3"))

    def test_the_same_rows_are_answered_alike(self):
        one, other = Desk(), Desk()
        rows = READY + RIGHT + Back.KEPT + RIGHT + ("back", "back", "names")
        told = []
        for row in rows:
            refused = refusal_of(one, row)
            self.assertIs(refused, refusal_of(other, row))
            told.append((refused, kept_by(one)))
            self.assertEqual(kept_by(one), kept_by(other))


class Refusals(Case):
    def test_none_but_the_told_class(self):
        told = [
            ("?", NoRow), ("show d", NoName), ("wheel x", NoText), ("wheel 0", NoSize), ("lead c a 5", NoUnit),
            ("order 2 4", NoOrder), ("paper 4", NoPrime),
        ]
        for row, refused in told:
            for name, other in vars(errors).items():
                if isinstance(other, type):
                    takes = issubclass(refused, other)
                    self.assertEqual(takes, other in (refused, errors.WheelError), (row, name))
            for taken in (refused, errors.WheelError, ValueError):
                with self.assertRaises(taken):
                    self.ready().say(row)
        with self.assertRaises(NoDeed):
            Desk().say("back")


class Model(Case):
    """Long talks, held against a desk that is made of forms and functions alone."""

    def rows(self, source, n):
        names = ("a", "b", "c", "d", "ab", "zzzzzzzz", "A", "")

        def name():
            return names[next(source) % 8 if next(source) % 9 == 0 else next(source) % 4]

        def number(most):
            return str(next(source) % (most + 3) - 1)
        kinds = {
            "NAME": name, "A": name, "B": name, "H": lambda: number(11), "J": lambda: number(70),
            "K": lambda: number(6), "M": lambda: number(13), "N": lambda: number(30), "Q": lambda: number(40),
            "SUM": lambda: show_sum(numbers_from(source, n if next(source) % 8 else 3, -3, 3)),
            "TOLD": lambda: show_told(nought(numbers_from(source, n, 0, 1))),
            "POLY": lambda: show_poly(numbers_from(source, next(source) % 3, -1, 1) + [1]),
            "PAPER": lambda: PAPER, "ROWS": lambda: "none by none",
        }
        while True:
            spec = SPECS[next(source) % len(SPECS)] if next(source) % 3 else "sum NAME SUM"
            if spec != "wheel N" or next(source) % 5 == 0:
                yield " ".join([spec.split(" ")[0]] + [kinds[kind]() for kind in spec.split(" ")[1:]])

    def test_long_talks(self):
        for seed in range(12):
            source = stream(seed + 50)
            desk, plain, n = Desk(), PlainDesk(), (6, 5, 12, 4, 1, 9)[seed % 6]
            self.check_alike(desk, plain, f"wheel {n}")
            for row, _ in zip(self.rows(source, n), range(220)):
                here = plain.states[-1][0]
                if here > 30 or here != n and next(source) % 6 == 0:
                    row = f"wheel {n}"
                great = [number for some in plain.states[-1][1].values() for number in some if abs(number) > 10 ** 20]
                if great and row.startswith("times"):
                    row = "back"
                self.check_alike(desk, plain, row)
            self.assertEqual(kept_by(desk)[0], plain.answer("size"))


if __name__ == "__main__":
    unittest.main()
