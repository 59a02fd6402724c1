"""The desk: each kind of line and its answer, what is no line, and what each stage refuses."""

import inspect
import random
import unittest

from netcourt.book import Book
from netcourt.bounds_found import value_of
from netcourt.claim_texts import read_claim, show_claim, show_term
from netcourt.claims import find_claim, look_claim
from netcourt.desk import Desk
from netcourt.errors import (CourtError, NoClaim, NoLine, NoName, NoPlace, NoTie, NoWidth, SamePlace, TooMany, Twice)
from netcourt.net_texts import read_net, show_net
from netcourt.papers import read_paper, show_paper
from claim_samples import SAMPLE_NET, chance_claim, sample_claims, slow_claim_truth
from samples import name_of
from term_samples import chance_term

LONG = "9" * 60
LINES = ("tie t a b 2 1", "tie u b c 3 -2", "place d", "state one: way a c", "state two: each X in all: way a X")
NET_TEXT = "place a; place b; place c; place d; tie t a b 2 1; tie u b c 3 -2"


def desk_of(*lines):
    desk = Desk()
    for line in lines:
        desk.say(line)
    return desk


def all_in(desk):
    names = [] if desk.say("claims") == "none" else desk.say("claims").split(" ")
    rows = [(name, desk.say(f"claim {name}"), desk.say(f"verdict {name}"), desk.say(f"paper {name}"))
            for name in names]
    return desk.say("net"), rows


class DeskCase(unittest.TestCase):
    def assert_said(self, desk, *rows):
        for line, answer in rows:
            told = desk.say(line)
            self.assertIs(type(told), str, line)
            self.assertEqual(told, answer, line)

    def assert_refused(self, desk, error, *lines):
        for line in lines:
            ahead = all_in(desk)
            with self.assertRaises(CourtError, msg=repr(line)) as taken:
                desk.say(line)
            self.assertIs(type(taken.exception), error, line)
            self.assertEqual(all_in(desk), ahead, line)

    def assert_stranger(self, desk, line, name):
        self.assert_refused(desk, NoPlace, line)
        try:
            desk.say(line)
        except NoPlace as error:
            self.assertEqual(error.name, name, line)


class TestAnswers(DeskCase):
    def test_an_empty_desk(self):
        self.assert_said(Desk(), ("net", ""), ("claims", "none"), ("value size all", "0"), ("value -7", "-7"),
                         ("ask each X in all: ring", "so [[] []]"), ("look so []: ring", "no"),
                         ("look not []: ring", "yes"), ("net", ""))

    def test_the_net(self):
        self.assert_said(Desk(), ("place b", "still"), ("tie t a b 3 -4", "still"),
                         (f"tie u b a {LONG} -{LONG}", "still"),
                         ("net", f"place b; place a; tie t a b 3 -4; tie u b a {LONG} -{LONG}"),
                         ("alter t 10 0", "still"), ("cut u", "still"), ("net", "place b; place a; tie t a b 10 0"))

    def test_claims(self):
        desk = desk_of(*LINES)
        self.assert_said(desk, ("claims", "one two"), ("claim one", "way a c"), ("claim two", "each X in all: way a X"),
                         ("verdict one", "so"), ("verdict two", "not so"), ("paper one", "[t u]"),
                         ("state three: not round", "so"), ("state four: (ring or 1 <= 0)", "not so"),
                         ("claims", "one two three four"), ("forget two", "ok"), ("claims", "one three four"),
                         ("state two: ring", "not so"), ("claims", "one three four two"),
                         ("claim four", "(ring or 1 <= 0)"))
        for name in ("one", "two", "three", "four"):
            desk.say(f"forget {name}")
        self.assert_said(desk, ("claims", "none"), ("net", NET_TEXT))

    def test_changes(self):
        desk = desk_of("tie t a b 1 1", "tie u a b 1 1", "state far: way a b", "state back: way b a",
                       "state many: 2 <= apart a b", "state size: size all <= 2")
        self.assertEqual(desk.say("claims"), "far back many size")
        first = desk.say("paper far")[1:-1]
        self.assert_said(desk, ("alter t 1 5", "still"), (f"cut {first}", "far mended, many turned"),
                         ("place c", "size turned"), ("tie v b a 1 1", "back turned"), ("cut v", "back turned"))
        last = desk.say("paper far")[1:-1]
        self.assert_said(desk, (f"cut {last}", "far turned"), ("place d", "still"), ("verdict far", "not so"))

    def test_several_changes_in_one_answer(self):
        desk = desk_of("place a", "state one: each X in all: way X a", "state two: size all <= 1",
                       "state three: 2 <= size all", "state four: not ring")
        self.assert_said(desk, ("place b", "one turned, two turned, three turned, four mended"),
                         ("tie t b a 1 1", "one turned"))

    def test_names_that_are_words(self):
        desk = Desk()
        words = ("net", "claims", "claim", "place", "tie", "look", "ask", "value", "so", "not", "state", "none")
        for word in words:
            self.assert_said(desk, (f"place {word}", "still"))
        for word in words:
            self.assert_said(desk, (f"state {word}: way {word} {word}", "so"), (f"claim {word}", f"way {word} {word}"),
                             (f"verdict {word}", "so"), (f"paper {word}", "[]"), (f"ask way {word} {word}", "so []"),
                             (f"value flow {word} {word}", "0"), (f"look so {word}: way {word} {word}", "no"))
        self.assert_said(desk, ("claims", " ".join(words)), ("tie net net claims 1 1", "still"),
                         ("alter net 2 2", "still"), ("cut net", "still"), ("forget net", "ok"),
                         ("claims", " ".join(words[1:])))

    def test_ask(self):
        desk = desk_of(*LINES)
        self.assert_said(desk, ("ask way a b", "so [t]"), ("ask 2 <= 1", "not so [[] []]"),
                         ("ask not 2 <= 1", "so [[] []]"), ("ask (1 <= 2 and 2 <= 1)", "not so [2 [[] []]]"),
                         ("ask some X in {}: ring", "not so [[] []]"), ("claims", "one two"))

    def test_value(self):
        desk = desk_of(*LINES)
        self.assert_said(desk, ("value flow a c", "2"), ("value 0", "0"), ("value -10", "-10"),
                         ("value size from a", "3"), ("value (size all + -9)", "-5"),
                         ("value least(flow a b, 7)", "2"), ("value most(1, 2)", "2"),
                         (f"value {LONG} * {LONG}", str(int(LONG) ** 2)), ("value pairs all {b, c}", "2"),
                         ("value bare a a", "0"), ("value apart a d", "0"))

    def test_look(self):
        desk = desk_of(*LINES)
        self.assert_said(desk, ("look so [t u]: way a c", "yes"), ("look not [t u]: way a c", "no"),
                         ("look so [t]: way a c", "no"), ("look so 7: way a c", "no"), ("look so t: way a c", "no"),
                         ("look not [c b]: way b a", "yes"), ("look so [c b]: way b a", "no"),
                         ("look not [c b]: not way b a", "no"), ("look so [c b]: not way b a", "yes"),
                         ("look so [[a] [[a []]]]: each X in {a}: way a X", "yes"),
                         ("look so [[a] [[a [t]]]]: each X in {a}: way a X", "no"), ("look so so: way a b", "no"),
                         ("look not not: way a b", "no"), ("look so look: way a b", "no"),
                         ("look so []: way a a", "yes"), ("look so [[] []]: 1 <= 1", "yes"),
                         ("look not [[] []]: 1 <= 1", "no"),
                         (f"look so {LONG}{LONG}: ring", "no"), ("look not [1 []]: (1 <= 1 and ring)", "no"))

    def test_what_the_modules_tell(self):
        chance = random.Random(41)
        desk = Desk()
        for place in SAMPLE_NET.places():
            desk.say(f"place {place}")
        for row in SAMPLE_NET.ties():
            desk.say("tie " + " ".join(str(part) for part in row))
        self.assertEqual(desk.say("net"), show_net(SAMPLE_NET))
        claims = sample_claims()
        claims += [chance_claim(chance, SAMPLE_NET.places(), chance.randint(1, 4)) for number in range(16)]
        for number, claim in enumerate(claims):
            text, name = show_claim(claim), name_of(number)
            so, paper = find_claim(SAMPLE_NET, claim)
            word = "so" if slow_claim_truth(SAMPLE_NET, claim) else "not so"
            self.assert_said(desk, (f"ask {text}", f"{word} {show_paper(paper)}"), (f"state {name}: {text}", word),
                             (f"claim {name}", text), (f"verdict {name}", word),
                             (f"look so {show_paper(paper)}: {text}", "yes" if so else "no"),
                             (f"look not {show_paper(paper)}: {text}", "no" if so else "yes"))
            kept = read_paper(desk.say(f"paper {name}"))
            self.assertIs(look_claim(SAMPLE_NET, claim, so, kept), True)
        for number in range(40):
            term = chance_term(chance, SAMPLE_NET, chance.randint(1, 5))
            self.assert_said(desk, (f"value {show_term(term)}", str(value_of(SAMPLE_NET, term))))

    def test_a_desk_beside_a_book(self):
        chance = random.Random(42)
        desk, book = Desk(), Book()
        for number in range(3000):
            line, deed, given = chance_line(chance)
            try:
                told = getattr(book, deed)(*given)
            except CourtError as error:
                self.assert_refused(desk, type(error), line)
                continue
            if deed in ("state", "verdict"):
                answer = "so" if told else "not so"
            elif deed == "forget":
                answer = "ok"
            else:
                answer = ", ".join(f"{name} {word}" for name, word in told) or "still"
            self.assert_said(desk, (line, answer), ("net", show_net(book.net())),
                             ("claims", " ".join(book.claims()) or "none"))

    def test_two_desks_side_by_side(self):
        one, other = desk_of(*LINES), desk_of(*LINES)
        one.say("cut t")
        one.say("forget one")
        self.assertEqual(all_in(other), all_in(desk_of(*LINES)))

    def test_told_lines_may_be_said_again(self):
        desk = desk_of(*LINES)
        for name in ("one", "two"):
            claim, paper = desk.say(f"claim {name}"), desk.say(f"paper {name}")
            side = {"so": "so", "not so": "not"}[desk.say(f"verdict {name}")]
            self.assert_said(desk, (f"look {side} {paper}: {claim}", "yes"))
        read_net(desk.say("net"))

    def test_arguments(self):
        self.assertEqual(list(inspect.signature(Desk).parameters), [])
        self.assertEqual(list(inspect.signature(Desk().say).parameters), ["line"])


def chance_line(chance):
    word = chance.choice(("place", "tie", "tie", "tie", "cut", "alter", "state", "state", "forget", "verdict"))
    name, place, other = chance.choice("rstuvR"), chance.choice("abcdeA"), chance.choice("abcde")
    width, cost = chance.randint(0, 4), chance.randint(-3, 9)
    if word == "state":
        text = chance.choice((f"way {place} {other}", f"cost {other} a <= {cost}", f"flow {place} {other} <= {width}",
                              f"each X in from {other}: not way X {place}", "some X in all: (ring or way X a)"))
        return f"state {name}: {text}", word, (name, read_claim(text))
    given = {"place": (place,), "tie": (name, place, other, width, cost), "cut": (name,), "alter": (name, width, cost),
             "forget": (name,), "verdict": (name,)}[word]
    return " ".join([word] + [str(part) for part in given]), word, given


NO_LINES = (
    "", " ", "  ", "hello", "Net", "NET", "nets", "net ", " net", "net a", "claims ", " claims", "claims a", "claim",
    "claim ", "claim  one", "claim one ", " claim one", "claim one two", "claim one:", "claim o:ne", "claim :",
    "Claim one", "verdict", "verdict ", "verdict one two", "verdict  one", "verdict one ", "verdict :", "verdict a:b",
    "paper", "paper ", "paper one two", "paper one ", "paper  one", "paper one:", "forget", "forget ", "forget one two",
    "forget one ", "forget  one", "forget one:", "forget: one",
    "place", "place ", "place  z", "place z ", " place z", "place y z", "place z:", "place y:z", "place :", "Place z",
    "place: z", "place\tz",
    "tie", "tie ", "tie w a b 1", "tie w a b 1 1 1", "tie w a b", "tie w a 1 1", "tie  w a b 1 1", "tie w  a b 1 1",
    "tie w a b  1 1", "tie w a b 1  1", "tie w a b 1 1 ", " tie w a b 1 1", "tie w: a b 1 1", "tie w a: b 1 1",
    "tie w a b: 1 1", "tie w a b 1: 1", "tie w a b 1 1:", "tie : a b 1 1", "Tie w a b 1 1",
    "cut", "cut ", "cut  t", "cut t ", " cut t", "cut t u", "cut t:", "cut :",
    "alter", "alter ", "alter t", "alter t 1", "alter t 1 1 1", "alter  t 1 1", "alter t  1 1", "alter t 1 1 ",
    "alter t: 1 1", "alter t 1: 1",
    "state", "state ", "state z", "state z:", "state z: ", "state z:ring", "state z : ring", "state  z: ring",
    "state z:  ring", "state z: ring ", " state z: ring", "state : ring", "state: ring", "state z ring",
    "state y z: ring", "state y:z: ring", "state z:: ring", "state z: rings", "state z: 1", "state z: size all",
    "state z: way a", "state z: way a b c", "state z: (ring)", "state z: Ring", "state z: state y: ring",
    "State z: ring", "state z: each X in all:ring", "state z: way a A1", "state z: each x in all: ring",
    "state z; ring", "state ring", "ask", "ask ", "ask  ring", "ask ring ", " ask ring", "ask: ring", "ask ring ring",
    "ask 1", "ask size all", "ask way a", "ask way a b c", "ask rings", "ask way a bB", "ask so []: ring", "Ask ring",
    "ask each X in all ring", "ask cost a b <= 01", "ask z: ring", "ask " + "not " * 12 + "ring",
    "value", "value ", "value  1", "value 1 ", " value 1", "value: 1", "value 1 1", "value ring", "value 1 <= 2",
    "value flow a", "value flow a b c", "value 01", "value -0", "value +1", "value -1 * 1", "value size", "value X",
    "value 9" + LONG, "value (1 + 2", "value size {a,b}", "Value 1", "value " + "1 * " * 12 + "1",
    "look", "look ", "look so", "look so ", "look so []", "look so []:", "look so []: ", "look so []:ring",
    "look so [] : ring", "look so  []: ring", "look  so []: ring", "look so []:  ring", "look so []: ring ",
    " look so []: ring", "look []: ring", "look yes []: ring", "look so not []: ring", "look not so []: ring",
    "look So []: ring", "look so: ring", "look so : ring", "look so [: ring", "look so ]: ring", "look so [ ]: ring",
    "look so [a  b]: ring", "look so a b: ring", "look so [A]: ring", "look so [a:b]: ring", "look so [X]: ring",
    "look so 01: ring", "look so -0: ring", f"look so 9{LONG}{LONG}: ring", "look so " + "[" * 61 + "]" * 61 + ": ring",
    "look so []: rings", "look so []: 1", "look so []: ", "look so []: size all", "look so []: []: ring",
    "look so None: ring", "look so True: ring", "look so (): ring", "look against []: ring", "look for []: ring",
    "ring", "way a b", "so", "not so", "quit", "state a: ring: ring", "place a; place b", "claims:", "net:", "[]", ":",
    ": ", ";", "place a\nplace b",
)
NO_NUMBERS = ("", "-", "+1", "-0", "00", "01", "-01", "1.0", "1_0", "1e2", "--1", "x", "X", "one", "9" + LONG,
              "-9" + LONG, "0x1", "1:", "1,", "[]", "True", "\u0661")


class TestNoLine(DeskCase):
    def test_no_such_line(self):
        desk = desk_of(*LINES)
        self.assert_refused(desk, NoLine, *NO_LINES)
        self.assert_refused(Desk(), NoLine, *NO_LINES)

    def test_numbers_that_are_none(self):
        desk = desk_of(*LINES)
        for number in NO_NUMBERS:
            self.assert_refused(desk, NoLine, f"tie w a b {number} 1", f"tie w a b 1 {number}", f"alter t {number} 1",
                                f"alter t 1 {number}", f"tie w a b {number} {number}")

    def test_numbers_of_sixty_figures(self):
        desk = Desk()
        self.assert_said(desk, (f"tie t a b {LONG} {LONG}", "still"), (f"alter t 1{'0' * 59} -{LONG}", "still"),
                         ("net", f"place a; place b; tie t a b 1{'0' * 59} -{LONG}"))

    def test_ahead_of_what_else_would_be_refused(self):
        desk = desk_of(*LINES)
        self.assert_refused(desk, NoLine, "tie T A A x 1", "tie t a b 1 x", "tie w a a 01 1", "tie w a b 0 x",
                            "alter zz 1 x", "alter zz x 1", "alter t 0 x", "cut zz yy", "place A B", "place a a",
                            "state A: way", "state one: rings", "state one: way zz yy xx", "state A:way zz a",
                            "forget zz yy", "claim zz yy", "verdict zz:", "paper zz ", "ask way zz", "ask way zz yy ",
                            "value flow zz", "value flow zz yy xx", "look so [: way zz yy", "look so []: way zz",
                            "look yes []: way zz yy")


class TestRefused(DeskCase):
    def test_deeds_on_the_net(self):
        desk = desk_of(*LINES)
        self.assert_refused(desk, NoName, "place A", "place a1", "place " + "z" * 13, "place [", "place a;",
                            "tie T a b 1 1", "tie w A b 1 1", "tie w a B 1 1", "tie t A A 0 1", "tie t a b. 1 1")
        self.assert_refused(desk, Twice, "place a", "place d", "tie t a b 1 1", "tie t a a 0 1")
        self.assert_refused(desk, SamePlace, "tie w a a 1 1", "tie w z z 0 1")
        self.assert_refused(desk, NoWidth, "tie w a b 0 1", "tie w a b -3 1", "alter t 0 1", "alter u -1 1",
                            f"alter u -{LONG} 1")
        self.assert_refused(desk, NoTie, "cut w", "cut a", "cut T", "cut 1", "alter w 1 1", "alter w 0 1",
                            "alter T 1 1")

    def test_too_many(self):
        desk = desk_of(*LINES)
        for number in range(16):
            desk.say(f"place {name_of(number)}")
        self.assert_refused(desk, TooMany, "place z", "tie w a z 1 1")
        for number in range(38):
            desk.say(f"tie {name_of(number)} a b 1 1")
        self.assert_refused(desk, TooMany, "tie w a b 1 1")
        self.assert_refused(desk, NoWidth, "tie w a b 0 1")

    def test_claims(self):
        desk = desk_of(*LINES)
        self.assert_refused(desk, NoName, "state A: ring", "state a1: ring", "state " + "z" * 13 + ": ring",
                            "state Z: way zz yy", "state [: ring")
        self.assert_refused(desk, Twice, "state one: ring", "state two: way zz yy")
        self.assert_stranger(desk, "state three: way a zz", "zz")
        self.assert_stranger(desk, "state three: each X in from yy: way zz X", "yy")
        self.assert_stranger(desk, "state three: way X zz", "X")
        for word in ("forget", "claim", "verdict", "paper"):
            self.assert_refused(desk, NoClaim, f"{word} three", f"{word} ONE", f"{word} on", f"{word} a", f"{word} 1")

    def test_strangers_in_what_is_asked(self):
        desk = desk_of(*LINES)
        for text, name in (("way zz yy", "zz"), ("way a yy", "yy"), ("cost X a <= 1", "X"), ("flow a t <= 1", "t"),
                           ("each X in {a, one}: ring", "one"), ("some X in from X: ring", "X"),
                           ("1 <= size to zz", "zz")):
            self.assert_stranger(desk, f"ask {text}", name)
            self.assert_stranger(desk, f"look so []: {text}", name)
            self.assert_stranger(desk, f"look not [[] []]: {text}", name)
        for text, name in (("flow zz yy", "zz"), ("size from X", "X"), ("pairs all {a, t}", "t"),
                           ("(size all + 2 * bare a yy)", "yy")):
            self.assert_stranger(desk, f"value {text}", name)

    def test_taken_once_it_is_there(self):
        desk = desk_of(*LINES)
        self.assert_stranger(desk, "ask way a z", "z")
        desk.say("tie w c z 1 1")
        self.assert_said(desk, ("ask way a z", "so [t u w]"), ("value flow a z", "1"), ("state z: way z a", "not so"))


if __name__ == "__main__":
    unittest.main()
