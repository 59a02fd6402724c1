"""The texts of claims, terms and sets, and reading them."""

import copy
import inspect
import random
import re
import unittest

from netcourt.claim_texts import read_claim, read_term, show_claim, show_term
from netcourt.claims import contrary_of
from netcourt.errors import CourtError, NoText
from claim_samples import ALL, VARIABLES, Names, chance_claim, chance_deep_claim, lists_within, words_in
from samples import GREAT, spoil
from term_samples import chance_term

LONG = "9" * 60
ONE, TWO = ("number", 1), ("number", 2)

SETS = {
    "all": ALL, "from a": ("from", "a"), "to a": ("to", "a"), "from X": ("from", "X"), "to ABC": ("to", "ABC"),
    "{}": ("these", []), "{a}": ("these", ["a"]), "{a, b}": ("these", ["a", "b"]),
    "{a, a, X}": ("these", ["a", "a", "X"]),
    "from all": ("from", "all"), "from from": ("from", "from"), "to to": ("to", "to"), "{all}": ("these", ["all"]),
    "{from, to, in}": ("these", ["from", "to", "in"]), "from zzzzzzzzzzzz": ("from", "z" * 12),
}
TERMS = {
    "0": ("number", 0), "1": ONE, "-1": ("number", -1), "10": ("number", 10), LONG: ("number", GREAT),
    "-" + LONG: ("number", -GREAT), "1" + "0" * 59: ("number", 10 ** 59),
    "flow a b": ("flow", "a", "b"), "apart X b": ("apart", "X", "b"), "bare a XYZ": ("bare", "a", "XYZ"),
    "flow flow flow": ("flow", "flow", "flow"), "bare not in": ("bare", "not", "in"), "apart a a": ("apart", "a", "a"),
    "(1 + 2)": ("plus", ONE, TWO), "least(1, 2)": ("least", ONE, TWO), "most(1, 2)": ("most", ONE, TWO),
    "0 * 1": ("times", 0, ONE), "2 * -1": ("times", 2, ("number", -1)), LONG + " * 1": ("times", GREAT, ONE),
    "2 * 3 * size all": ("times", 2, ("times", 3, ("size", ALL))),
    "2 * (1 + 2)": ("times", 2, ("plus", ONE, TWO)), "(2 * 1 + 2)": ("plus", ("times", 2, ONE), TWO),
    "(1 + 2 * 1)": ("plus", ONE, ("times", 2, ONE)), "((1 + 2) + 1)": ("plus", ("plus", ONE, TWO), ONE),
    "(1 + (1 + 2))": ("plus", ONE, ("plus", ONE, TWO)), "(-1 + -2)": ("plus", ("number", -1), ("number", -2)),
    "least(most(1, 2), (1 + 2))": ("least", ("most", ONE, TWO), ("plus", ONE, TWO)),
    "most(2 * 1, least(1, 1))": ("most", ("times", 2, ONE), ("least", ONE, ONE)),
}
TERMS.update({f"size {text}": ("size", kind) for text, kind in SETS.items()})
TERMS.update({f"pairs {text} {other}": ("pairs", SETS[text], SETS[other]) for text in SETS for other in SETS})
CLAIMS = {
    "way a b": ("way", "a", "b"), "way X Y": ("way", "X", "Y"), "way way way": ("way", "way", "way"),
    "cost a b <= 3": ("cost", "a", "b", 3), "cost a X <= -3": ("cost", "a", "X", -3),
    "cost a b <= 0": ("cost", "a", "b", 0), f"cost cost to <= -{LONG}": ("cost", "cost", "to", -GREAT),
    "ring": ("ring",), "round": ("round",), "must a b c": ("must", "a", "b", "c"),
    "must X X X": ("must", "X", "X", "X"),
    "not ring": ("not", ("ring",)), "not not ring": ("not", ("not", ("ring",))),
    "(ring and round)": ("and", ("ring",), ("round",)), "(ring or round)": ("or", ("ring",), ("round",)),
    "(not ring and not round)": ("and", ("not", ("ring",)), ("not", ("round",))),
    "not (ring or round)": ("not", ("or", ("ring",), ("round",))),
    "((ring and round) or ring)": ("or", ("and", ("ring",), ("round",)), ("ring",)),
    "(ring and (ring or round))": ("and", ("ring",), ("or", ("ring",), ("round",))),
    "1 <= 2": ("atmost", ONE, TWO), "not 1 <= 2": ("not", ("atmost", ONE, TWO)),
    "-1 <= -1": ("atmost", ("number", -1), ("number", -1)), "(1 + 2) <= 2": ("atmost", ("plus", ONE, TWO), TWO),
    "1 <= (1 + 2)": ("atmost", ONE, ("plus", ONE, TWO)),
    "2 * 1 <= 2 * 2": ("atmost", ("times", 2, ONE), ("times", 2, TWO)),
    "(1 <= 2 and ring)": ("and", ("atmost", ONE, TWO), ("ring",)),
    "(ring or 1 <= 2)": ("or", ("ring",), ("atmost", ONE, TWO)),
    "((1 + 2) <= 2 and (ring or (2 + 1) <= (1 + 1)))":
    ("and", ("atmost", ("plus", ONE, TWO), TWO), ("or", ("ring",), ("atmost", ("plus", TWO, ONE), ("plus", ONE, ONE)))),
    "(((1 + 2) + 1) <= 2 or 1 <= least((1 + 1), 2))":
    ("or", ("atmost", ("plus", ("plus", ONE, TWO), ONE), TWO), ("atmost", ONE, ("least", ("plus", ONE, ONE), TWO))),
    "(cost a b <= 3 and 3 <= 4)":
    ("and", ("cost", "a", "b", 3), ("atmost", ("number", 3), ("number", 4))),
    "each X in all: ring": ("each", "X", ALL, ("ring",)),
    "some ABC in {}: ring": ("some", "ABC", ("these", []), ("ring",)),
    "each X in from in: way in in": ("each", "X", ("from", "in"), ("way", "in", "in")),
    "each X in all: some Y in from X: not way Y X":
    ("each", "X", ALL, ("some", "Y", ("from", "X"), ("not", ("way", "Y", "X")))),
    "(each X in all: ring and ring)": ("and", ("each", "X", ALL, ("ring",)), ("ring",)),
    "each X in all: (ring and ring)": ("each", "X", ALL, ("and", ("ring",), ("ring",))),
    "each X in all: 1 <= size {a, X}": ("each", "X", ALL, ("atmost", ONE, ("size", ("these", ["a", "X"])))),
    "not each X in {a, b}: ring": ("not", ("each", "X", ("these", ["a", "b"]), ("ring",))),
    "some X in to X: way X X": ("some", "X", ("to", "X"), ("way", "X", "X")),
    "pairs all all <= pairs from all to all":
    ("atmost", ("pairs", ALL, ALL), ("pairs", ("from", "all"), ("to", "all"))),
    "way all not": ("way", "all", "not"), "must and or each": ("must", "and", "or", "each"),
    "flow least most <= size {some}": ("atmost", ("flow", "least", "most"), ("size", ("these", ["some"]))),
}
CLAIMS.update({f"each X in {text}: ring": ("each", "X", kind, ("ring",)) for text, kind in SETS.items()})
CLAIMS.update({f"{text} <= 1": ("atmost", term, ONE) for text, term in TERMS.items()})
CLAIMS.update({f"1 <= {text}": ("atmost", ONE, term) for text, term in TERMS.items()})

NO_NAMES = ("", "A1", "a1", "1", "-1", "ABCD", "XYZW", "Xa", "aX", "aB", "z" * 13, "a_b", "a-b", "'a'", "\u00e4",
            "\u00c4", "a.", "*", "+", "<=", "a\n", "\ta", "[a]", "a;b")
NO_NUMBERS = ("", "-", "+1", "+0", "-0", "00", "01", "-01", "007", "--1", "1-", "- 1", "1.0", "1_0", "1e2", "0x1",
              "9" + LONG, "-9" + LONG, "0" + LONG, "9" * 3000, "\u0661", "\u00b2", "one", "X", "True")


def no_terms():
    texts = ["", " ", "  ", "size", "size ", "size  all", "size all ", " size all", "size All", "size a", "size from",
             "size from  a", "size from a b", "size to", "size all all", "size from {a}", "size X", "size these a",
             "size (all)", "size {a", "size a}", "size {a,b}", "size {a , b}", "size { a}", "size {a }", "size { }",
             "size {,}", "size {a,}", "size {a, }", "size {, a}", "size {a  b}", "size {a b}", "size {a,  b}",
             "size {{a}}", "size{a}", "size [a]", "size {a, b", "size {a} b", "size {a: b}", "flow", "flow a",
             "flow a b c", "flow  a b", "flow a  b", "flow a b ", " flow a b", "flow a, b", "flow(a, b)", "Flow a b",
             "flow a,b", "apart a", "bare", "bare a", "flow a b:", "flows a b", "pairs all", "pairs", "pairs all  all",
             "pairs all all all", "pairs all, all", "pairs from all", "pairs from a", "pairs a b", "pairs {} ",
             "pairs {}{}", "pairs {a}, {b}", "1 + 2", "(1 + 2", "1 + 2)", "(1+2)", "( 1 + 2)", "(1 + 2 )", "(1  + 2)",
             "(1 +  2)", "(1 + 2))", "((1 + 2)", "(1 - 2)", "(1 plus 2)", "(1 + 2 + 3)", "(1)", "()", "(1 + )",
             "( + 2)", "(+ 2)", "(1 2)", "(1 * 2)", "(1, 2)", "(1 and 2)", "(1 or 2)", "(ring + 2)", "(1 + ring)",
             "(1 + 2) ", " (1 + 2)", "(1 <= 2 + 1)", "(1 + 2 <= 1)", "least 1, 2", "least (1, 2)", "least(1,2)",
             "least(1 , 2)", "least( 1, 2)", "least(1, 2 )", "least(1, 2", "least(1 2)", "least(1)", "least()",
             "least(1, 2, 3)", "least(1, )", "least(, 2)", "least[1, 2]", "most(1;2)", "most(1, 2))", "least(1,  2)",
             "Least(1, 2)", "least", "most", "most(", "least(1, ring)", "least(1 <= 2, 1)", "2*1", "2* 1", "2 *1",
             "2  * 1", "2 *  1", "2 * ", "2 *", "* 2", "-1 * 2", "-0 * 1", "+1 * 1", "02 * 1", "size all * 2",
             "(2) * 1", "2 x 1", "2 * 1 * ", "2 ** 1", "2 * ring", "2 * 1 <= 2", "1 2", "1,", "1:", "1 <= 2", "1\n",
             "\n1", "1 ", " 1", "number 1", "X", "a", "all", "{}", "{a}", "from a", "times 2 1"]
    texts += list(CLAIMS)
    texts += list(NO_NUMBERS)
    for name in NO_NAMES:
        texts += [f"flow {name} b", f"apart a {name}", f"bare {name} {name}", f"size from {name}", f"size to {name}",
                  f"size {{a, {name}}}", f"pairs all from {name}"]
    for number in NO_NUMBERS:
        texts += [f"({number} + 1)", f"(1 + {number})", f"least({number}, 1)", f"2 * {number}", f"{number} * 1"]
    return texts


def no_claims():
    texts = ["", " ", "ring ", " ring", "Ring", "ring ring", "rings", "ring:", "ring()", "(ring)", "round ", "round a",
             "ring a", "way", "way a", "way a b c", "way  a b", "way a  b", "way a b ", " way a b", "way a, b",
             "way(a, b)", "WAY a b", "must", "must a", "must a b", "must a b c d", "must a b  c", "must a, b, c",
             "cost a b", "cost a b <=", "cost a b <= ", "cost a b < 3", "cost a b 3", "cost a b <= 3 4",
             "cost a b<= 3", "cost a b <=3", "cost a b  <= 3", "cost a b <=  3", "cost a <= 3", "cost a b c <= 3",
             "cost a b => 3", "cost a b <= size all", "cost a b <= X", "cost a b <= (1 + 2)", "cost a b <= 1 <= 2",
             "1 <= ", " <= 1", "<= 1", "1 <=", "1 < 2", "1 >= 2", "1 => 2", "1 = 2", "1<=2", "1 <=2", "1<= 2",
             "1  <= 2", "1 <=  2", "1 <= 2 ", " 1 <= 2", "1 <= 2 <= 3", "(1 <= 2)", "1 <= ring", "ring <= 1", "not 1",
             "1 <= 2 3", "(1 + 2 <= 3)", "1 + 2 <= 3", "(1 + 2 <= 3 and ring)", "(1 <= 2 + 3)", "not", "not ",
             "not  ring", "notring", "not(ring)", "not not", "Not ring", "ring not", "not ring ring", "ring and ring",
             "(ring and ring", "ring and ring)", "(ring and)", "(and ring)", "(ring and )", "( and ring)",
             "(ring  and ring)", "(ring and  ring)", "( ring and ring)", "(ring and ring )", "(ring and ring))",
             "((ring and ring)", "((ring and ring))", "(ring And ring)", "(ring xor ring)", "(ring, ring)",
             "(ring ring)", "(ring and ring and ring)", "(ring and ring or ring)", "()", "(", ")", "(1 and 2)",
             "(ring and 2)", "(1 or ring)", "(ring + ring)", "(ring andring)", "(ring & ring)", "[ring and ring]",
             "(ring or ring) ", " (ring or ring)", "(ring or\nring)", "(ring not ring)", "(ring <= ring)",
             "(ring in ring)", "(ring : ring)", "each X in all ring", "each X in all:ring", "each X in all : ring",
             "each X in all:  ring", "each X in all:", "each X in all: ", "each X all: ring", "each X in: ring",
             "each X: ring", "each in all: ring", "each: ring", "each  X in all: ring", "each X  in all: ring",
             "each X in  all: ring", "each X in a: ring", "each X, Y in all: ring", "each X in from: ring",
             "each X in from a b: ring", "each X in {a: ring", "each X in a}: ring", "each X in {a,b}: ring",
             "each X in all: ring ring", "each X of all: ring", "each X IN all: ring", "each X in all: 1",
             "each X in all: size all", "Each X in all: ring", "some X in all; ring", "some X in X: ring",
             "each X in all: each Y: ring", "each X in all: ring: ring", "each X in all:: ring", "each X in {} : ring",
             "all", "{}", "X", "a", "true", "atmost 1 2", "and", "or", "each", "some", "in", ":", ",", "{", "}"]
    texts += list(TERMS)
    texts += list(NO_NUMBERS)
    for name in NO_NAMES:
        texts += [f"way {name} b", f"way a {name}", f"cost {name} b <= 3", f"cost a {name} <= 3", f"must {name} b c",
                  f"must a {name} c", f"must a b {name}", f"flow a {name} <= 1", f"each X in from {name}: ring",
                  f"each X in to {name}: ring", f"some X in {{{name}, a}}: ring", f"each {name} in all: ring",
                  f"some {name} in all: ring"]
    for name in ("a", "x", "xyz", "all", "in"):
        texts += [f"each {name} in all: ring", f"some {name} in all: ring"]
    for number in NO_NUMBERS:
        texts += [f"cost a b <= {number}", f"{number} <= 1", f"1 <= {number}", f"{number} * 1 <= 1"]
    return texts


def changed_texts(text):
    for at in range(len(text) + 1):
        yield text[:at] + text[at + 1:]
        yield text[:at] + text[at + 1:at + 2] + text[at:at + 1] + text[at + 2:]
        for sign in " (){},:aX0-+*<=":
            yield text[:at] + sign + text[at:]
            yield text[:at] + sign + text[at + 1:]


def patterns_of(deep):
    """Another way to tell whether a text is a term's or a claim's, of those that are at most so deep."""
    name, great = "(?:[a-z]{1,12}|[A-Z]{1,3})", "[1-9][0-9]{0,59}"
    kind = rf"(?:all|(?:from|to) {name}|\{{(?:{name}(?:, {name})*)?\}})"
    leaf = rf"0|-?{great}|size {kind}|(?:flow|apart|bare) {name} {name}|pairs {kind} {kind}"
    plain = rf"way {name} {name}|cost {name} {name} <= (?:0|-?{great})|ring|round|must {name} {name} {name}"
    term, claim = f"(?:{leaf})", f"(?:{plain})"
    for number in range(deep - 1):
        claim = (rf"(?:{plain}|{term} <= {term}|not {claim}|\({claim} (?:and|or) {claim}\)"
                 rf"|(?:each|some) [A-Z]{{1,3}} in {kind}: {claim})")
        term = rf"(?:{leaf}|\({term} \+ {term}\)|(?:least|most)\({term}, {term}\)|(?:0|{great}) \* {term})"
    return re.compile(term), re.compile(claim)


# Deep enough for all but a few of the texts above, and for what they become by one sign more or less.
PATTERNS = patterns_of(4)


class TextCase(unittest.TestCase):
    def assert_no_text(self, deed, text):
        with self.assertRaises(ValueError, msg=repr(text)) as taken:
            deed(text)
        self.assertIs(type(taken.exception), NoText, text)
        self.assertIsInstance(taken.exception, CourtError)

    def assert_text(self, show, read, text, whole):
        ahead = copy.deepcopy(whole)
        self.assertEqual(show(whole), text)
        self.assertEqual(whole, ahead)
        told = read(text)
        self.assertEqual(repr(told), repr(whole), text)


class TestTexts(TextCase):
    def test_claims(self):
        for text, claim in CLAIMS.items():
            self.assert_text(show_claim, read_claim, text, claim)

    def test_terms(self):
        for text, term in TERMS.items():
            self.assert_text(show_term, read_term, text, term)

    def test_no_two_have_the_same(self):
        for texts in (CLAIMS, TERMS, SETS):
            self.assertEqual(len({repr(whole) for whole in texts.values()}), len(texts))

    def test_what_no_claim_has(self):
        for text in no_claims():
            if text not in CLAIMS:
                self.assert_no_text(read_claim, text)

    def test_what_no_term_has(self):
        for text in no_terms():
            if text not in TERMS:
                self.assert_no_text(read_term, text)

    def test_a_claims_text_is_no_terms_and_the_other_way_round(self):
        for text in CLAIMS:
            self.assert_no_text(read_term, text)
        for text in TERMS:
            self.assert_no_text(read_claim, text)

    def test_variables_need_not_be_told(self):
        for variable in ("X", "AB", "XYZ"):
            self.assertEqual(read_claim(f"way a {variable}"), ("way", "a", variable))
            self.assertEqual(read_term(f"size {{{variable}}}"), ("size", ("these", [variable])))

    def test_every_letter(self):
        for letter in "abcdefghijklmnopqrstuvwxyz":
            for name in (letter, letter * 12, letter.upper(), letter.upper() * 3):
                self.assert_text(show_claim, read_claim, f"must {name} a {name}", ("must", name, "a", name))
                self.assert_text(show_term, read_term, f"size {{{name}}}", ("size", ("these", [name])))
                self.assert_no_text(read_claim, f"way {name}a {name}A")
            self.assertEqual(read_claim(f"each {letter.upper()} in all: ring")[1], letter.upper())

    def test_by_chance(self):
        chance = random.Random(21)
        words = set()
        for number in range(600):
            names = ["a", "all", "not", "in", "from", "and", "zzzzzzzzzzzz"] + list(VARIABLES)
            claim = chance_claim(chance, chance.sample(names, 4), chance.randint(1, 6))
            self.assertEqual(read_claim(show_claim(claim)), claim)
            words |= words_in(claim)
            term = chance_term(chance, Names(names), chance.randint(1, 6))
            self.assertEqual(read_term(show_term(term)), term)
            self.assert_no_text(read_claim, show_term(term))
            self.assert_no_text(read_term, show_claim(claim))
        self.assertEqual(len(words), 11 + 10 + 4)

    def test_with_one_sign_changed(self):
        chance = random.Random(22)
        taken = {True: 0, False: 0}
        for read, show, texts, pattern in ((read_term, show_term, TERMS, PATTERNS[0]),
                                           (read_claim, show_claim, CLAIMS, PATTERNS[1])):
            for text in chance.sample([text for text in texts if pattern.fullmatch(text)], 150):
                for other in changed_texts(text):
                    is_text = pattern.fullmatch(other) is not None
                    taken[is_text] += 1
                    if is_text:
                        self.assertEqual(show(read(other)), other)
                    else:
                        self.assert_no_text(read, other)
        self.assertGreater(min(taken.values()), 1000)


class TestDepth(TextCase):
    def assert_deepest(self, read, show, step, core, deep):
        """The core, so deep by itself, within as many steps as there may be, and within one more."""
        text = core
        for number in range(12 - deep):
            text = step(text)
        self.assertEqual(show(read(text)), text)
        self.assert_no_text(read, step(text))
        for number in range(60):
            text = step(text)
        self.assert_no_text(read, text)

    def test_claims(self):
        steps = [lambda text: f"not {text}", lambda text: f"({text} and ring)", lambda text: f"(ring or {text})",
                 lambda text: f"each X in all: {text}", lambda text: f"some X in {{a, b}}: {text}"]
        for step in steps:
            for core, deep in (("ring", 1), ("cost a b <= 3", 1), ("1 <= 2", 2), ("pairs all all <= size all", 2),
                               ("(1 + 2) <= 1", 3), ("1 <= 2 * most(1, (2 + 1))", 5), ("not way a b", 2)):
                self.assert_deepest(read_claim, show_claim, step, core, deep)

    def test_terms(self):
        steps = [lambda text: f"2 * {text}", lambda text: f"({text} + 1)", lambda text: f"(1 + {text})",
                 lambda text: f"least({text}, 1)", lambda text: f"most(1, {text})"]
        for step in steps:
            for core, deep in (("1", 1), ("size {a, b}", 1), ("pairs all from a", 1), ("flow a b", 1), ("(1 + 2)", 2)):
                self.assert_deepest(read_term, show_term, step, core, deep)

    def test_terms_in_a_claim(self):
        for left in (True, False):
            term = "1"
            for number in range(10):
                term = f"({term} + 1)" if number % 2 else f"2 * {term}"
            for more in ("ring", "1"):
                claim = f"{term} <= 1" if left else f"1 <= {term}"
                self.assertEqual(show_claim(read_claim(claim)), claim)
                self.assert_no_text(read_claim, f"not {claim}")
                self.assert_no_text(read_claim, f"({claim} and ring)")
                self.assert_no_text(read_claim, f"2 * {term} <= 1" if left else f"1 <= 2 * {term}")
                self.assertEqual(show_term(read_term(f"2 * {term}")), f"2 * {term}")
                self.assert_no_text(read_term, f"2 * 2 * {term}")

    def test_by_chance(self):
        chance = random.Random(23)
        for number in range(60):
            claim = chance_deep_claim(chance, ["a", "b"], 12)
            self.assertEqual(read_claim(show_claim(claim)), claim)
            self.assert_no_text(read_claim, show_claim(("not", claim)))
            term = chance_term(chance, Names(["a", "b"]), 12)
            self.assertEqual(read_term(show_term(term)), term)
            self.assert_no_text(read_term, show_term(("times", 1, term)))

    def test_a_contrary_that_is_thirteen_deep_has_a_text(self):
        claim = read_claim("1 <= " + "2 * " * 10 + "1")
        self.assertEqual(show_claim(contrary_of(claim)), "(" + "2 * " * 10 + "1 + 1) <= 1")
        self.assert_no_text(read_claim, show_claim(contrary_of(claim)))

    def test_very_long_texts(self):
        for text in ("not " * 990 + "ring", "(" * 4000, "(" * 1300 + "1", "least(" * 600, "2 * " * 990 + "1",
                     "each X in all: " * 260 + "ring", ")" * 4000, "{" * 4000, " " * 4000, "ring " * 800, "a" * 4000,
                     "9" * 4000, "(1 + " * 700 + "1" + ")" * 700, "(ring and " * 350 + "ring" + ")" * 350,
                     "least(1, " * 400 + "1" + ")" * 400, "most(" * 600 + "1" + ", 1)" * 600):
            self.assert_no_text(read_claim, text)
            self.assert_no_text(read_term, text)
        names = ", ".join(["a"] * 300)
        self.assertEqual(read_term(f"size {{{names}}}"), ("size", ("these", ["a"] * 300)))
        claim = "ring"
        for number in range(7):
            claim = f"({claim} or {claim})"
        self.assertEqual(show_claim(read_claim(claim)), claim)


class TestFigures(TextCase):
    def test_sixty_and_sixty_one(self):
        for sign in ("", "-"):
            for figures in (LONG, "1" + "0" * 59):
                number = int(sign + figures)
                self.assertEqual(read_term(sign + figures), ("number", number))
                self.assertEqual(read_claim(f"cost a b <= {sign}{figures}"), ("cost", "a", "b", number))
                self.assertEqual(read_claim(f"{sign}{figures} <= 1"), ("atmost", ("number", number), ONE))
                for text in (f"{sign}{figures}0", f"2 * {sign}{figures}0", f"size all{sign}{figures}"):
                    self.assert_no_text(read_term, text)
                self.assert_no_text(read_claim, f"cost a b <= {sign}{figures}0")
                self.assert_no_text(read_claim, f"1 <= {sign}{figures}0")
        self.assertEqual(read_term(f"{LONG} * 1"), ("times", GREAT, ONE))
        self.assert_no_text(read_term, f"{LONG}9 * 1")

    def test_a_greater_number_is_shown(self):
        self.assertEqual(show_term(("number", 10 ** 60)), "1" + "0" * 60)
        self.assertEqual(show_claim(("cost", "a", "b", -10 ** 60)), "cost a b <= -1" + "0" * 60)


class TestWhatIsTold(TextCase):
    def test_told_lists_are_the_askers_own(self):
        for text, claim in CLAIMS.items():
            told = read_claim(text)
            inner = lists_within(told)
            self.assertEqual(len({id(part) for part in inner}), len(inner))
            for part in inner:
                spoil(part)
            self.assertEqual(read_claim(text), claim)

    def test_arguments(self):
        for deed, name in ((show_claim, "claim"), (show_term, "term"), (read_claim, "text"), (read_term, "text")):
            self.assertEqual(list(inspect.signature(deed).parameters), [name])


if __name__ == "__main__":
    unittest.main()
