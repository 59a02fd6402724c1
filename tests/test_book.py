"""The book: its deeds and what they refuse, what becomes of its claims as the net is changed, and what it tells."""

import copy
import inspect
import random
import unittest

from netcourt.book import Book
from netcourt.claims import look_claim
from netcourt.errors import (CourtError, NoClaim, NoName, NoPlace, NoTie, NoWidth, SamePlace, TooMany, Twice)
from netcourt.nets import Net
from claim_samples import (ALL, CLAIM_WORDS, chance_claim, lists_within, sample_claims, slow_claim_look,
                           slow_claim_truth)
from samples import GREAT, all_of, name_of, spoil

NO_NAMES = ("", "A", "aB", "a1", "a b", "a ", " a", "z" * 13, "X", "a:", "\u00e4")
ROUND = ("round",)


def all_in(book):
    """All that a book can be asked."""
    names = book.claims()
    return (all_of(book.net()), names, [(book.claim(name), book.verdict(name), book.paper(name)) for name in names])


def sample_book():
    """a leads to b and b to c; d stands apart."""
    book = Book()
    book.tie("t", "a", "b", 2, 1)
    book.tie("u", "b", "c", 3, 2)
    book.place("d")
    book.state("one", ("way", "a", "c"))
    book.state("two", ("each", "X", ALL, ("way", "a", "X")))
    book.state("three", ("atmost", ("flow", "a", "c"), ("number", 2)))
    return book


class BookCase(unittest.TestCase):
    def assert_refused(self, book, error, deed, *given):
        ahead = copy.deepcopy(all_in(book))
        with self.assertRaises(CourtError, msg=(deed, given)) as taken:
            getattr(book, deed)(*given)
        self.assertIs(type(taken.exception), error, (deed, given))
        self.assertEqual(all_in(book), ahead)
        return taken.exception

    def assert_holds(self, book):
        """Each claim has its verdict and a paper that is let by."""
        net = book.net()
        for name in book.claims():
            claim, so, paper = book.claim(name), book.verdict(name), book.paper(name)
            self.assertIs(so, slow_claim_truth(net, claim), (all_of(net), claim))
            self.assertIs(look_claim(net, claim, so, paper), True, (all_of(net), claim, so, paper))
            self.assertIs(slow_claim_look(net, claim, so, paper), True, (all_of(net), claim, so, paper))

    def assert_deed(self, book, deed, *given):
        """A deed on the net: what it tells, which papers it changes, and which it leaves as they were."""
        ahead = [(name, book.claim(name), book.verdict(name), book.paper(name)) for name in book.claims()]
        net = book.net()
        self.assertIs(getattr(net, deed)(*given), None)
        told = getattr(book, deed)(*given)
        self.assertIs(type(told), list)
        self.assertEqual(all_of(book.net()), all_of(net))
        self.assertEqual(book.claims(), [row[0] for row in ahead])
        expected = []
        for name, claim, so, paper in ahead:
            self.assertEqual(book.claim(name), claim)
            if slow_claim_look(net, claim, so, paper):
                self.assertEqual((book.verdict(name), book.paper(name)), (so, paper))
            else:
                expected.append((name, "mended" if slow_claim_truth(net, claim) is so else "turned"))
        self.assertEqual(told, expected)
        self.assert_holds(book)
        return told


class TestNew(BookCase):
    def test_empty_at_first(self):
        book = Book()
        self.assertEqual(all_in(book), (([], []), [], []))
        self.assertIs(type(book.net()), Net)

    def test_deeds_on_the_net_of_a_book_without_claims(self):
        book = Book()
        self.assertEqual(book.place("a"), [])
        self.assertEqual(book.tie("t", "b", "a", 3, -1), [])
        self.assertEqual(book.alter("t", 4, 5), [])
        self.assertEqual(all_of(book.net()), (["a", "b"], [("t", "b", "a", 4, 5)]))
        self.assertEqual(book.cut("t"), [])
        self.assertEqual(all_of(book.net()), (["a", "b"], []))


class TestRefusedDeedsOnTheNet(BookCase):
    def test_place(self):
        book = sample_book()
        for name in NO_NAMES:
            self.assert_refused(book, NoName, "place", name)
        for name in "abcd":
            self.assert_refused(book, Twice, "place", name)
        for number in range(16):
            book.place(name_of(number))
        self.assert_refused(book, TooMany, "place", "z")
        self.assert_refused(book, Twice, "place", "a")
        self.assert_refused(book, NoName, "place", "Z")

    def test_tie(self):
        book = sample_book()
        for name in NO_NAMES:
            for given in ((name, "a", "b"), ("w", name, "b"), ("w", "a", name), ("t", name, name), (name, "a", "a")):
                self.assert_refused(book, NoName, "tie", *given, 1, 1)
                self.assert_refused(book, NoName, "tie", *given, 0, 1)
        self.assert_refused(book, Twice, "tie", "t", "a", "b", 1, 1)
        self.assert_refused(book, Twice, "tie", "t", "a", "a", 0, 1)
        self.assert_refused(book, SamePlace, "tie", "w", "a", "a", 1, 1)
        self.assert_refused(book, SamePlace, "tie", "w", "z", "z", 0, 1)
        for width in (0, -1, -GREAT):
            self.assert_refused(book, NoWidth, "tie", "w", "a", "b", width, 1)
            self.assert_refused(book, NoWidth, "tie", "w", "y", "z", width, 1)
        self.assertEqual(book.net().places(), ["a", "b", "c", "d"])

    def test_tie_beyond_what_there_may_be(self):
        book = sample_book()
        for number in range(15):
            book.place(name_of(number))
        self.assert_refused(book, TooMany, "tie", "w", "y", "z", 1, 1)
        self.assert_refused(book, NoWidth, "tie", "w", "y", "z", 0, 1)
        book.tie("w", "a", "z", 1, 1)
        self.assert_refused(book, TooMany, "tie", "x", "a", "y", 1, 1)
        for number in range(37):
            book.tie(name_of(number), "a", "b", 1, 1)
        self.assert_refused(book, TooMany, "tie", "x", "a", "b", 1, 1)
        self.assert_refused(book, Twice, "tie", "t", "a", "b", 1, 1)
        self.assert_refused(book, SamePlace, "tie", "x", "a", "a", 1, 1)
        self.assert_refused(book, NoWidth, "tie", "x", "a", "b", 0, 1)
        book.cut("t")
        book.tie("x", "a", "b", 1, 1)
        self.assertEqual(len(book.net().ties()), 40)

    def test_cut_and_alter(self):
        book = sample_book()
        for name in ("w", "a", "", "T", "one"):
            self.assert_refused(book, NoTie, "cut", name)
            self.assert_refused(book, NoTie, "alter", name, 1, 1)
            self.assert_refused(book, NoTie, "alter", name, 0, 1)
        self.assert_refused(book, NoWidth, "alter", "t", 0, 1)
        self.assert_refused(book, NoWidth, "alter", "t", -5, 1)
        book.cut("t")
        self.assert_refused(book, NoTie, "cut", "t")

    def test_the_same_as_of_a_net(self):
        chance = random.Random(31)
        book, net = Book(), Net()
        book.state("c", ("not", ROUND))
        seen = set()
        for number in range(1500):
            deed, given = chance_deed(chance)
            told = []
            for thing in (net, book):
                try:
                    getattr(thing, deed)(*given)
                    told.append(None)
                except CourtError as error:
                    told.append(type(error))
            self.assertEqual(told[0], told[1], (deed, given))
            self.assertEqual(all_of(book.net()), all_of(net))
            seen.add((deed, told[0]))
        self.assertGreaterEqual(len(seen), 4 + 2 + 4 + 1 + 2)


def chance_deed(chance, names="abcdefg", ties="stuvw", odd=True):
    word = chance.choice(("place", "tie", "tie", "tie", "cut", "alter"))
    if odd:
        names, ties = list(names) + ["", "A"], list(ties) + ["", "A"]
    if word == "place":
        return word, (chance.choice(names),)
    width, cost = chance.choice((1, 2, 3, GREAT) + ((0, -1) if odd else ())), chance.randint(-2, 6)
    if word == "tie":
        return word, (chance.choice(ties), chance.choice(names), chance.choice(names), width, cost)
    return (word, (chance.choice(ties),)) if word == "cut" else (word, (chance.choice(ties), width, cost))


class TestState(BookCase):
    def test_tells_the_verdict(self):
        book = sample_book()
        self.assertIs(book.state("four", ("way", "a", "b")), True)
        self.assertIs(book.state("five", ("way", "b", "a")), False)
        self.assertEqual(book.claims(), ["one", "two", "three", "four", "five"])
        self.assertEqual([book.verdict(name) for name in book.claims()], [True, False, True, True, False])
        self.assert_holds(book)

    def test_each_kind_of_claim(self):
        book = sample_book()
        for number, claim in enumerate(sample_claims()):
            name = name_of(number)
            self.assertIs(book.state(name, claim), slow_claim_truth(book.net(), claim))
            self.assertEqual(book.claim(name), claim)
        self.assert_holds(book)

    def test_refusals_one_by_one(self):
        book = sample_book()
        for name in NO_NAMES:
            self.assert_refused(book, NoName, "state", name, ROUND)
        for name in ("one", "two", "three"):
            self.assert_refused(book, Twice, "state", name, ROUND)
        for claim, stranger in ((("way", "a", "zz"), "zz"), (("way", "X", "zz"), "X"),
                                (("each", "X", ("from", "yy"), ("way", "zz", "X")), "yy"),
                                (("atmost", ("flow", "a", "t"), ("number", 1)), "t")):
            error = self.assert_refused(book, NoPlace, "state", "four", claim)
            self.assertEqual(error.name, stranger)

    def test_refusals_two_at_once(self):
        book = sample_book()
        strange = ("way", "zz", "a")
        for name in NO_NAMES:
            self.assert_refused(book, NoName, "state", name, strange)
        self.assert_refused(book, Twice, "state", "one", strange)
        self.assertEqual(self.assert_refused(book, NoPlace, "state", "four", strange).name, "zz")

    def test_taken_once_the_place_is_there(self):
        book = sample_book()
        self.assert_refused(book, NoPlace, "state", "four", ("way", "a", "z"))
        self.assert_deed(book, "place", "z")
        self.assertIs(book.state("four", ("way", "a", "z")), False)
        self.assertIn(("four", "turned"), self.assert_deed(book, "tie", "w", "c", "z", 1, 1))

    def test_a_claim_may_be_called_as_a_place_or_a_tie(self):
        book = sample_book()
        for name in ("a", "t", "all", "not", "z" * 12):
            self.assertIs(book.state(name, ROUND), False)
        self.assert_holds(book)

    def test_one_claim_by_two_names(self):
        book = sample_book()
        book.forget("three")
        book.state("four", ("way", "a", "c"))
        self.assertEqual(self.assert_deed(book, "cut", "u"), [("one", "turned"), ("four", "turned")])


class TestForget(BookCase):
    def test_tells_nothing_and_leaves_the_others(self):
        book = sample_book()
        two, three = book.paper("two"), book.paper("three")
        self.assertIs(book.forget("one"), None)
        self.assertEqual(book.claims(), ["two", "three"])
        self.assertEqual((book.paper("two"), book.paper("three")), (two, three))
        self.assertEqual(all_of(book.net()), all_of(sample_book().net()))

    def test_refused(self):
        book = sample_book()
        for name in NO_NAMES + ("four", "a", "t", "on", "onee"):
            for deed in ("forget", "claim", "verdict", "paper"):
                self.assert_refused(book, NoClaim, deed, name)
        book.forget("one")
        for deed in ("forget", "claim", "verdict", "paper"):
            self.assert_refused(book, NoClaim, deed, "one")
            self.assert_refused(Book(), NoClaim, deed, "one")

    def test_stated_again_by_the_same_name(self):
        book = sample_book()
        book.forget("one")
        self.assertIs(book.state("one", ("way", "c", "a")), False)
        self.assertEqual(book.claims(), ["two", "three", "one"])
        self.assertEqual((book.claim("one"), book.verdict("one")), (("way", "c", "a"), False))
        self.assertEqual(self.assert_deed(book, "tie", "w", "c", "a", 1, 0), [("one", "turned")])
        for name in ("one", "two", "three"):
            book.forget(name)
        self.assertEqual(all_in(book)[1:], ([], []))

    def test_a_forgotten_claim_is_not_told_of(self):
        book = sample_book()
        book.forget("one")
        self.assertNotIn("one", [name for name, word in book.cut("t")])


class TestChanges(BookCase):
    def test_mended_and_turned(self):
        book = Book()
        book.tie("t", "a", "b", 1, 1)
        book.tie("u", "a", "b", 1, 1)
        book.state("far", ("way", "a", "b"))
        book.state("many", ("atmost", ("number", 2), ("apart", "a", "b")))
        book.state("back", ("way", "b", "a"))
        paper = book.paper("far")
        self.assertEqual(self.assert_deed(book, "cut", paper[0]), [("far", "mended"), ("many", "turned")])
        other = book.paper("far")
        self.assertNotEqual(other, paper)
        self.assertEqual(self.assert_deed(book, "cut", other[0]), [("far", "turned")])
        self.assertEqual(self.assert_deed(book, "tie", "v", "a", "b", 1, 1), [("far", "turned")])
        self.assertEqual(self.assert_deed(book, "tie", "w", "a", "b", 1, 1), [("many", "turned")])
        self.assertEqual(self.assert_deed(book, "tie", "x", "b", "a", 1, 1), [("back", "turned")])

    def test_a_new_place(self):
        book = Book()
        book.state("none", ("each", "X", ALL, ("way", "X", "X")))
        book.state("any", ("some", "X", ALL, ("way", "X", "X")))
        book.state("size", ("atmost", ("size", ALL), ("number", 1)))
        book.state("ring", ("not", ("ring",)))
        self.assertEqual(self.assert_deed(book, "place", "a"), [("none", "mended"), ("any", "turned"),
                                                                ("size", "mended"), ("ring", "mended")])
        self.assertEqual(self.assert_deed(book, "place", "b"), [("none", "mended"), ("size", "turned"),
                                                                ("ring", "mended")])

    def test_a_tie_and_its_two_places_are_one_deed(self):
        book = Book()
        book.state("size", ("atmost", ("size", ALL), ("number", 0)))
        book.state("pairs", ("atmost", ("number", 1), ("pairs", ALL, ALL)))
        self.assertEqual(self.assert_deed(book, "tie", "t", "a", "b", 1, 0), [("size", "turned"), ("pairs", "turned")])

    def test_a_paper_let_by_still_is_left_as_it_was(self):
        book = Book()
        book.tie("t", "a", "b", 1, 5)
        book.state("cost", ("cost", "a", "b", 7))
        book.state("way", ("way", "a", "b"))
        paper = book.paper("cost")
        self.assertEqual(self.assert_deed(book, "tie", "u", "a", "b", 1, 1), [])
        self.assertEqual(self.assert_deed(book, "alter", "t", 9, 7), [])
        self.assertEqual(book.paper("cost"), paper)
        self.assertEqual(self.assert_deed(book, "alter", "t", 9, 8), [("cost", "mended")])
        self.assertEqual(self.assert_deed(book, "alter", "u", 9, 8), [("cost", "turned")])
        self.assertEqual(self.assert_deed(book, "alter", "u", 9, 8), [])

    def test_a_deed_that_changes_no_number_changes_no_paper(self):
        book = sample_book()
        self.assertEqual(self.assert_deed(book, "alter", "t", 2, 1), [])

    def test_the_order_in_which_they_were_stated(self):
        book = Book()
        book.place("a")
        names = ["z", "b", "y", "a", "x"]
        for name in names:
            book.state(name, ("each", "X", ALL, ("way", "X", "a")))
        book.forget("b")
        book.state("b", ("each", "X", ALL, ("way", "X", "a")))
        self.assertEqual(self.assert_deed(book, "place", "b"), [(name, "turned") for name in ("z", "y", "a", "x", "b")])

    def test_rows_of_changes_by_chance(self):
        chance = random.Random(32)
        words, kinds = {}, set()
        for number in range(300):
            book = Book()
            for step in range(25):
                deed, given = chance_deed(chance, "abcd", odd=False)
                try:
                    getattr(book.net(), deed)(*given)
                except CourtError as error:
                    self.assert_refused(book, type(error), deed, *given)
                    continue
                for name, word in self.assert_deed(book, deed, *given):
                    words[word] = words.get(word, 0) + 1
                if step % 3 == 0 and step < 20:
                    claim = chance_claim(chance, book.net().places(), chance.randint(1, 3))
                    self.assertIs(book.state(name_of(step), claim), slow_claim_truth(book.net(), claim))
                    kinds.add(claim[0])
                if step == 15 and book.claims():
                    book.forget(book.claims()[0])
        self.assertEqual(kinds, set(CLAIM_WORDS))
        self.assertGreater(min(words["mended"], words["turned"]), 100)

    def test_a_full_book(self):
        chance = random.Random(33)
        book = Book()
        for number in range(20):
            book.place(name_of(number))
        for number in range(40):
            a, b = chance.sample(book.net().places(), 2)
            book.tie(name_of(number), a, b, chance.randint(1, GREAT), chance.randint(-GREAT // 9, GREAT))
        book.state("flows", ("each", "X", ALL, ("each", "Y", ALL, (
            "atmost", ("apart", "X", "Y"), ("flow", "X", "Y")))))
        book.state("ways", ("some", "X", ALL, ("each", "Y", ALL, ("way", "X", "Y"))))
        book.state("costs", ("each", "X", ALL, ("some", "Y", ("from", "X"), ("not", ("cost", "X", "Y", -1)))))
        for number in range(0, 40, 4):
            book.alter(name_of(number), GREAT, -GREAT if number % 8 else GREAT)
            book.cut(name_of(number + 1))
            for name in book.claims():
                self.assertIs(look_claim(book.net(), book.claim(name), book.verdict(name), book.paper(name)), True)
        self.assertIs(book.verdict("flows"), True)


class TestWhatIsTold(BookCase):
    def test_a_claim_handed_in_and_changed_behind(self):
        book = sample_book()
        names, inner = ["a", "b"], ["c"]
        claim = ("each", "X", ("these", names), ("some", "Y", ("these", inner), ("way", "X", "Y")))
        self.assertIs(book.state("four", claim), True)
        as_was = copy.deepcopy(all_in(book))
        names.append("d")
        inner.clear()
        self.assertEqual(all_in(book), as_was)
        self.assertNotIn("four", [name for name, word in self.assert_deed(book, "place", "e")])
        self.assertIs(book.verdict("four"), True)
        self.assertEqual(book.claim("four")[2], ("these", ["a", "b"]))
        self.assert_holds(book)

    def test_told_things_changed_by_the_asker(self):
        book = sample_book()
        for number, claim in enumerate(sample_claims()):
            book.state(name_of(number), claim)
        as_was = copy.deepcopy(all_in(book))
        for name in book.claims():
            for part in lists_within(book.claim(name)) + lists_within(book.paper(name)):
                spoil(part)
            spoil(book.paper(name))
        spoil(book.claims())
        book.net().cut("t")
        book.net().place("z")
        spoil(book.net().places())
        spoil(book.net().ties())
        self.assertEqual(all_in(book), as_was)
        told = self.assert_deed(book, "cut", "t")
        as_was = copy.deepcopy((told, all_in(book)))
        other = list(told)
        told.clear()
        self.assertEqual((other, all_in(book)), as_was)
        self.assert_deed(book, "tie", "t", "a", "b", 1, 1)

    def test_told_lists_are_new_each_time(self):
        book = sample_book()
        book.state("four", ("each", "X", ("these", ["a"]), ("ring",)))
        for name in book.claims():
            for ask in (book.claim, book.paper):
                first, second = lists_within(ask(name)), lists_within(ask(name))
                self.assertEqual(first, second)
                self.assertFalse({id(part) for part in first} & {id(part) for part in second})
            inner = lists_within(book.paper(name))
            self.assertEqual(len({id(part) for part in inner}), len(inner))
        self.assertIsNot(book.net(), book.net())
        self.assertIsNot(book.claims(), book.claims())

    def test_later_deeds_change_nothing_told(self):
        book = sample_book()
        net, told = book.net(), all_in(book)
        as_was = copy.deepcopy((all_of(net), told))
        book.cut("t")
        book.tie("x", "d", "a", 1, 1)
        book.forget("two")
        book.state("two", ROUND)
        self.assertEqual((all_of(net), told), as_was)

    def test_the_same_each_time_between_two_deeds(self):
        book = sample_book()
        for deed, given in (("cut", ("t",)), ("tie", ("x", "a", "d", 1, 1)), ("place", ("z",)), ("forget", ("one",))):
            getattr(book, deed)(*given)
            first = all_in(book)
            for number in range(3):
                self.assertEqual(all_in(book), first)

    def test_two_books_side_by_side(self):
        one, other = sample_book(), sample_book()
        as_was = copy.deepcopy(all_in(other))
        one.cut("t")
        one.state("four", ROUND)
        one.forget("two")
        self.assertEqual(all_in(other), as_was)
        self.assertEqual(all_in(Book()), (([], []), [], []))
        self.assertNotEqual(all_in(one), as_was)

    def test_a_told_net_in_the_place_of_the_books_own(self):
        book = sample_book()
        net = book.net()
        net.tie("w", "c", "a", 1, 1)
        self.assertEqual(all_of(book.net()), all_of(sample_book().net()))
        book.tie("x", "c", "d", 1, 1)
        self.assertEqual([row[0] for row in net.ties()], ["t", "u", "w"])

    def test_arguments(self):
        expected = {"place": ["name"], "tie": ["name", "a", "b", "width", "cost"], "cut": ["name"],
                    "alter": ["name", "width", "cost"], "state": ["name", "claim"], "forget": ["name"], "net": [],
                    "claims": [], "claim": ["name"], "verdict": ["name"], "paper": ["name"]}
        for deed, names in expected.items():
            self.assertEqual(list(inspect.signature(getattr(Book(), deed)).parameters), names)
        self.assertEqual(list(inspect.signature(Book).parameters), [])


if __name__ == "__main__":
    unittest.main()
