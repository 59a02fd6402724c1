"""Names and variables in claims: which are strangers, what is put in for a variable; the contraries of claims."""

import copy
import inspect
import random
import unittest

from netcourt.claims import contrary_of, find_claim, look_at_claim, look_at_term, look_claim, put_in
from netcourt.errors import CourtError, NoPlace
from claim_samples import (ALL, CLAIM_WORDS, SAMPLE_NET, chance_claim, lists_within, sample_claims, slow_claim_truth,
                           small_nets, with_told, words_in)
from samples import GREAT, all_of, net_of, spoil
from term_samples import chance_term

NET = net_of("abc", ("t", "a", "b", 1), ("u", "b", "c", 1))


def terms_of(a, b):
    """Each kind of term in which names may stand, with a and b in it."""
    return [
        ("flow", a, b), ("apart", a, b), ("bare", a, b), ("pairs", ("from", a), ("to", b)),
        ("pairs", ("these", [a]), ("these", [b])), ("pairs", ALL, ("these", ["c", a, b])),
        ("plus", ("size", ("from", a)), ("size", ("to", b))),
        ("least", ("size", ("these", ["c", a, b])), ("number", 1)),
        ("most", ("number", 1), ("flow", a, b)), ("times", 3, ("bare", a, b)),
        ("plus", ("times", 0, ("most", ("size", ALL), ("apart", "c", a))), ("flow", b, "c")),
    ]


def claims_of(a, b):
    """Each kind of claim in which names may stand, with a ahead of b in it."""
    ring = ("ring",)
    claims = [
        ("way", a, b), ("cost", a, b, 3), ("must", a, b, "c"), ("must", a, "c", b), ("must", "c", a, b),
        ("not", ("way", a, b)), ("and", ("way", "a", a), ("way", b, "a")), ("or", ("way", a, a), ("way", b, b)),
        ("and", ring, ("or", ("round",), ("way", a, b))),
        ("each", "X", ("from", a), ("way", b, "X")), ("some", "X", ("to", a), ("way", "X", b)),
        ("each", "X", ("these", ["b", a, b]), ring), ("some", "X", ALL, ("way", a, b)),
        ("each", "X", ("from", a), ("some", "Y", ("these", ["c", b]), ring)),
        ("some", "X", ALL, ("each", "Y", ("from", "X"), ("must", "Y", a, b))),
        ("atmost", ("flow", "c", a), ("flow", b, "c")), ("atmost", ("number", 1), ("flow", a, b)),
        ("atmost", ("flow", a, b), ("number", 1)), ("atmost", ("size", ("from", a)), ("size", ("to", b))),
    ]
    return claims + [("atmost", term, ("number", 0)) for term in terms_of(a, b)] + \
        [("atmost", ("size", ALL), term) for term in terms_of(a, b)]


class StrangerCase(unittest.TestCase):
    def assert_stranger(self, deed, net, whole, name):
        ahead = copy.deepcopy((all_of(net), whole))
        with self.assertRaises(CourtError, msg=whole) as taken:
            deed(net, whole)
        self.assertIs(type(taken.exception), NoPlace)
        self.assertEqual(taken.exception.name, name, whole)
        self.assertEqual((all_of(net), whole), ahead)

    def assert_let_by(self, deed, net, whole):
        ahead = copy.deepcopy((all_of(net), whole))
        self.assertIs(deed(net, whole), None, whole)
        self.assertEqual((all_of(net), whole), ahead)


class TestStrangers(StrangerCase):
    def test_places_are_let_by(self):
        for a in "abc":
            for b in "abc":
                for claim in claims_of(a, b):
                    self.assert_let_by(look_at_claim, NET, claim)
                for term in terms_of(a, b):
                    self.assert_let_by(look_at_term, NET, term)

    def test_the_first_of_several(self):
        for claim in claims_of("zz", "yy"):
            self.assert_stranger(look_at_claim, NET, claim, "zz")
        for term in terms_of("zz", "yy"):
            self.assert_stranger(look_at_term, NET, term, "zz")

    def test_each_place_of_a_name(self):
        for name in ("zz", "t", "u", "d", "aa", "ab", "Z", "XX", "ABC", "A"):
            for a, b in ((name, "a"), ("a", name), (name, name)):
                for claim in claims_of(a, b):
                    self.assert_stranger(look_at_claim, NET, claim, name)
                for term in terms_of(a, b):
                    self.assert_stranger(look_at_term, NET, term, name)

    def test_all_kinds_of_sets(self):
        for kind in (("from", "zz"), ("to", "zz"), ("these", ["zz"]), ("these", ["a", "b", "zz", "yy"])):
            for term in (("size", kind), ("pairs", kind, ALL), ("pairs", ALL, kind), ("pairs", kind, ("from", "yy"))):
                self.assert_stranger(look_at_term, NET, term, "zz")
                self.assert_stranger(look_at_term, NET, ("times", 2, ("plus", ("number", 0), term)), "zz")
            for word in ("each", "some"):
                self.assert_stranger(look_at_claim, NET, (word, "X", kind, ("ring",)), "zz")
                self.assert_stranger(look_at_claim, NET, (word, "X", kind, ("way", "yy", "X")), "zz")

    def test_the_set_comes_ahead_of_the_claim(self):
        for word in ("each", "some"):
            claim = (word, "X", ("these", ["a", "yy"]), ("way", "zz", "xx"))
            self.assert_stranger(look_at_claim, NET, claim, "yy")
            self.assert_stranger(look_at_claim, NET, (word, "X", ("these", []), ("way", "X", "xx")), "xx")

    def test_where_no_place_is_needed(self):
        for net in (NET, net_of("")):
            for claim in (("ring",), ("round",), ("not", ("ring",)), ("atmost", ("number", 1), ("size", ALL)),
                          ("each", "X", ALL, ("way", "X", "X")), ("some", "X", ("these", []), ("must", "X", "X", "X"))):
                self.assert_let_by(look_at_claim, net, claim)
            for term in (("number", -GREAT), ("size", ALL), ("pairs", ALL, ("these", [])), ("times", 0, ("size", ALL))):
                self.assert_let_by(look_at_term, net, term)

    def test_the_empty_net_has_no_place(self):
        for claim in claims_of("a", "b"):
            self.assertRaises(NoPlace, look_at_claim, net_of(""), claim)
        for term in terms_of("a", "b"):
            self.assertRaises(NoPlace, look_at_term, net_of(""), term)

    def test_the_net_of_now(self):
        net = net_of("a")
        self.assert_stranger(look_at_claim, net, ("way", "a", "b"), "b")
        net.place("b")
        self.assert_let_by(look_at_claim, net, ("way", "a", "b"))

    def test_a_place_named_as_a_word(self):
        net = net_of("")
        for name in ("all", "not", "in", "each", "way", "these"):
            claims = [("way", name, name), ("cost", name, name, 0), ("each", "X", ("from", name), ("way", "X", name)),
                      ("atmost", ("size", ("these", [name])), ("flow", name, name))]
            for claim in claims:
                self.assert_stranger(look_at_claim, net, claim, name)
            net.place(name)
            for claim in claims:
                self.assert_let_by(look_at_claim, net, claim)


class TestVariables(StrangerCase):
    def test_told_around(self):
        inner = claims_of("X", "X") + claims_of("X", "a") + claims_of("b", "X")
        for word in ("each", "some"):
            for claim in inner:
                self.assert_let_by(look_at_claim, NET, (word, "X", ALL, claim))
                self.assert_let_by(look_at_claim, NET, (word, "X", ALL, ("not", ("or", ("ring",), claim))))
                self.assert_let_by(look_at_claim, NET, (word, "X", ALL, ("some", "Y", ("from", "X"), claim)))

    def test_outside_of_what_tells_it(self):
        told = ("each", "X", ALL, ("way", "X", "a"))
        for claim in (("way", "X", "a"), ("and", told, ("way", "X", "a")), ("or", ("way", "a", "X"), told),
                      ("not", ("cost", "X", "X", 0)), ("each", "Y", ALL, ("way", "Y", "X")),
                      ("each", "XX", ALL, ("way", "XX", "X")), ("some", "Y", ("from", "X"), told)):
            self.assert_stranger(look_at_claim, NET, claim, "X")
        self.assert_stranger(look_at_term, NET, ("flow", "a", "X"), "X")

    def test_in_the_set_of_what_tells_it(self):
        for word in ("each", "some"):
            for kind in (("from", "X"), ("to", "X"), ("these", ["a", "X"])):
                self.assert_stranger(look_at_claim, NET, (word, "X", kind, ("ring",)), "X")
                self.assert_stranger(look_at_claim, NET, (word, "X", kind, ("way", "X", "zz")), "X")
                self.assert_let_by(look_at_claim, NET, (word, "Y", ALL, (word, "Z", ("these", ["Y"]), ("ring",))))

    def test_told_again_within(self):
        for word in ("each", "some"):
            again = (word, "X", ("from", "X"), ("way", "X", "X"))
            self.assert_stranger(look_at_claim, NET, again, "X")
            self.assert_let_by(look_at_claim, NET, ("each", "X", ALL, again))
            self.assert_let_by(look_at_claim, NET, ("some", "X", ALL, ("and", again, ("way", "X", "a"))))
            self.assert_stranger(look_at_claim, NET, ("and", ("each", "X", ALL, again), ("way", "b", "X")), "X")

    def test_variables_of_two_and_three_letters(self):
        for variable in ("AB", "XYZ", "Q"):
            self.assert_let_by(look_at_claim, NET, ("each", variable, ALL, ("way", variable, "a")))
            self.assert_stranger(look_at_claim, NET, ("each", "X", ALL, ("way", variable, "a")), variable)

    def test_the_nearest_counts(self):
        claim = ("each", "X", ("these", ["a"]), ("some", "X", ("these", ["b"]), ("way", "X", "a")))
        self.assertEqual(find_claim(NET, claim)[0], False)
        claim = ("each", "X", ("these", ["b"]), ("some", "X", ("these", ["a"]), ("way", "X", "b")))
        self.assertEqual(find_claim(NET, claim)[0], True)
        claim = ("each", "X", ("these", ["b"]), ("and", ("some", "X", ("these", ["a"]), ("way", "X", "b")),
                                                 ("not", ("way", "X", "a"))))
        self.assertEqual(find_claim(NET, claim)[0], True)

    def test_the_set_of_one_told_again_is_of_the_one_around(self):
        claim = ("each", "X", ("these", ["b"]), ("each", "X", ("from", "X"), ("way", "b", "X")))
        self.assertEqual(find_claim(NET, claim)[0], True)
        claim = ("each", "X", ("these", ["a"]), ("each", "X", ("from", "X"), ("way", "b", "X")))
        self.assertEqual(find_claim(NET, claim), (False, ["a", [], ["a", [], ["b", "c"]]]))


class TestPutIn(unittest.TestCase):
    def assert_put(self, claim, variable, place, expected):
        ahead = copy.deepcopy(claim)
        told = put_in(claim, variable, place)
        self.assertEqual(told, expected)
        self.assertEqual(repr(told), repr(expected))
        self.assertEqual(claim, ahead)

    def test_each_place_of_a_name(self):
        for claim, other, another in zip(claims_of("Z", "Z"), claims_of("a", "a"), claims_of("a", "Z")):
            self.assert_put(claim, "Z", "a", other)
            self.assert_put(another, "Z", "a", other)

    def test_another_variable_is_left_alone(self):
        for claim in claims_of("Z", "ZZ"):
            self.assert_put(claim, "Q", "a", claim)
        for claim, other in zip(claims_of("Z", "ZZ"), claims_of("Z", "c")):
            self.assert_put(claim, "ZZ", "c", other)

    def test_places_numbers_and_words_are_left_alone(self):
        for claim in claims_of("a", "b") + [("ring",), ("round",), ("atmost", ("number", 1), ("number", -GREAT))]:
            self.assert_put(claim, "Z", "c", claim)

    def test_told_again_within(self):
        within = ("way", "X", "Y")
        for word in ("each", "some"):
            self.assert_put((word, "X", ALL, within), "X", "a", (word, "X", ALL, within))
            self.assert_put((word, "X", ("from", "X"), within), "X", "a", (word, "X", ("from", "a"), within))
            self.assert_put((word, "X", ("these", ["b", "X"]), within), "X", "a",
                            (word, "X", ("these", ["b", "a"]), within))
            self.assert_put((word, "X", ("to", "Y"), within), "Y", "a", (word, "X", ("to", "a"), ("way", "X", "a")))
            self.assert_put((word, "Y", ("to", "X"), within), "X", "a", (word, "Y", ("to", "a"), ("way", "a", "Y")))

    def test_told_again_further_within(self):
        claim = ("and", ("way", "X", "b"), ("each", "Y", ("from", "X"), ("or", ("way", "Y", "X"), (
            "some", "X", ("these", ["X", "Y"]), ("not", ("must", "X", "Y", "X"))))))
        self.assert_put(claim, "X", "a", ("and", ("way", "a", "b"), ("each", "Y", ("from", "a"), ("or", (
            "way", "Y", "a"), ("some", "X", ("these", ["a", "Y"]), ("not", ("must", "X", "Y", "X")))))))
        self.assert_put(claim, "Y", "a", claim)

    def test_names_in_lists(self):
        kind = ("these", ["X", "a", "X", "Y", "b"])
        self.assert_put(("each", "Z", kind, ("ring",)), "X", "c",
                        ("each", "Z", ("these", ["c", "a", "c", "Y", "b"]), ("ring",)))
        self.assert_put(("atmost", ("size", kind), ("pairs", kind, kind)), "Y", "c",
                        ("atmost", ("size", ("these", ["X", "a", "X", "c", "b"])),
                         ("pairs", ("these", ["X", "a", "X", "c", "b"]), ("these", ["X", "a", "X", "c", "b"]))))
        self.assert_put(("some", "X", ("these", []), ("ring",)), "X", "c", ("some", "X", ("these", []), ("ring",)))

    def test_what_is_told_is_the_askers_own(self):
        names, within = ["X", "a"], ["a", "Y"]
        claims = [
            ("each", "Z", ("these", names), ("atmost", ("size", ("these", names)), ("number", 1))),
            ("each", "X", ("these", names), ("some", "Y", ("these", within), ("ring",))),
            ("each", "X", ALL, ("some", "Y", ("these", within), ("ring",))),
            ("not", ("and", ("ring",), ("some", "Y", ("these", within), ("ring",)))),
        ]
        for claim in claims:
            for variable in ("X", "Q"):
                told = put_in(claim, variable, "b")
                as_was = copy.deepcopy(told)
                names.append("c")
                within.insert(0, "c")
                self.assertEqual(told, as_was)
                names.pop()
                within.pop(0)
                ahead = copy.deepcopy(claim)
                for part in lists_within(told):
                    part.append("spoilt")
                self.assertEqual(claim, ahead)

    def test_claims_by_chance(self):
        chance = random.Random(1)
        for number in range(300):
            claim = chance_claim(chance, ["a", "b", "X", "Y"], chance.randint(1, 5))
            with_a, with_b = put_in(claim, "X", "a"), put_in(put_in(claim, "X", "b"), "Y", "a")
            self.assertEqual(with_b, put_in(put_in(claim, "Y", "a"), "X", "b"))
            self.assertEqual(put_in(with_a, "X", "b"), with_a)
            if not words_in(claim) & {"each", "some"}:
                self.assertEqual(with_a, with_told(claim, {"X": "a"}))

    def test_arguments(self):
        self.assertEqual(list(inspect.signature(put_in).parameters), ["claim", "variable", "place"])
        self.assertEqual(list(inspect.signature(look_at_claim).parameters), ["net", "claim"])
        self.assertEqual(list(inspect.signature(look_at_term).parameters), ["net", "term"])
        self.assertEqual(list(inspect.signature(look_claim).parameters), ["net", "claim", "so", "paper"])
        self.assertEqual(list(inspect.signature(find_claim).parameters), ["net", "claim"])
        self.assertEqual(list(inspect.signature(contrary_of).parameters), ["claim"])


class TestContrary(unittest.TestCase):
    def assert_contrary(self, claim, expected):
        ahead = copy.deepcopy(claim)
        self.assertEqual(contrary_of(claim), expected)
        self.assertEqual(claim, ahead)

    def test_plain(self):
        for claim in (("way", "a", "b"), ("cost", "a", "b", 3), ("ring",), ("round",), ("must", "a", "b", "c")):
            self.assert_contrary(claim, ("not", claim))
            self.assert_contrary(("not", claim), claim)

    def test_atmost(self):
        v, w = ("flow", "a", "b"), ("times", 2, ("size", ALL))
        self.assert_contrary(("atmost", v, w), ("atmost", ("plus", w, ("number", 1)), v))
        self.assert_contrary(("not", ("atmost", v, w)), ("atmost", v, w))
        again = contrary_of(contrary_of(("atmost", v, w)))
        self.assertEqual(again, ("atmost", ("plus", v, ("number", 1)), ("plus", w, ("number", 1))))

    def test_put_together(self):
        c, d = ("way", "a", "b"), ("atmost", ("number", 1), ("number", 2))
        no_c, no_d = ("not", c), ("atmost", ("plus", ("number", 2), ("number", 1)), ("number", 1))
        self.assert_contrary(("and", c, d), ("or", no_c, no_d))
        self.assert_contrary(("or", d, c), ("and", no_d, no_c))
        self.assert_contrary(("each", "X", ("from", "a"), c), ("some", "X", ("from", "a"), no_c))
        self.assert_contrary(("some", "ABC", ("these", ["a"]), d), ("each", "ABC", ("these", ["a"]), no_d))
        self.assert_contrary(("not", ("not", c)), no_c)
        self.assert_contrary(("not", ("and", c, d)), ("and", c, d))
        self.assert_contrary(("and", ("not", c), ("or", c, ("not", d))), ("or", c, ("and", no_c, d)))
        self.assert_contrary(("each", "X", ALL, ("some", "Y", ("from", "X"), ("not", c))),
                             ("some", "X", ALL, ("each", "Y", ("from", "X"), c)))

    def test_true_just_where_the_claim_is_not(self):
        chance = random.Random(2)
        seen = {}
        for net in [SAMPLE_NET] + small_nets(3, 150):
            claims = [chance_claim(chance, net.places(), chance.randint(1, 4)) for number in range(12)]
            for claim in claims + (sample_claims() if net is SAMPLE_NET else []):
                truth = slow_claim_truth(net, claim)
                for times in range(3):
                    claim, truth = contrary_of(claim), not truth
                    self.assertIs(slow_claim_truth(net, claim), truth, (all_of(net), claim))
                    found = find_claim(net, claim)
                    self.assertIs(found[0], truth, (all_of(net), claim))
                    self.assertIs(look_claim(net, claim, truth, found[1]), True)
                    seen[claim[0], truth] = True
        self.assertEqual({word for word, truth in seen}, set(CLAIM_WORDS))

    def test_both_numbers_the_same(self):
        claim = ("atmost", ("number", 4), ("number", 4))
        self.assertIs(find_claim(NET, claim)[0], True)
        self.assertIs(find_claim(NET, contrary_of(claim))[0], False)
        claim = ("atmost", ("number", 5), ("number", 4))
        self.assertIs(find_claim(NET, claim)[0], False)
        self.assertIs(find_claim(NET, contrary_of(claim))[0], True)

    def test_a_contrary_of_a_claim_twelve_deep(self):
        chance = random.Random(4)
        for number in range(20):
            term = chance_term(chance, NET, 11)
            claim = contrary_of(("atmost", term, ("number", 1)))
            other = contrary_of(("atmost", ("number", 1), term))
            for whole in (claim, other, contrary_of(other)):
                self.assertIs(look_at_claim(NET, whole), None)
                found = find_claim(NET, whole)
                self.assertIs(found[0], slow_claim_truth(NET, whole))
                self.assertIs(look_claim(NET, whole, found[0], found[1]), True)

    def test_what_is_told_is_the_askers_own(self):
        names = ["a", "b"]
        kind = ("these", names)
        claims = [
            ("not", ("each", "X", kind, ("ring",))), ("each", "X", kind, ("ring",)),
            ("atmost", ("size", kind), ("number", 1)), ("atmost", ("number", 1), ("pairs", kind, ALL)),
            ("and", ("ring",), ("some", "X", kind, ("ring",))),
            ("some", "X", ALL, ("not", ("atmost", ("size", kind), ("size", kind)))),
        ]
        for claim in claims:
            told = contrary_of(claim)
            as_was = copy.deepcopy(told)
            names.append("c")
            self.assertEqual(told, as_was)
            names.pop()
            for part in lists_within(told):
                spoil(part)
            self.assertEqual(names, ["a", "b"])
            self.assertEqual(contrary_of(claim), as_was)


if __name__ == "__main__":
    unittest.main()
