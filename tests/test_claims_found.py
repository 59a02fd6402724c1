"""The finder of papers for or against claims put together, and the looker at what it found."""

import copy
import itertools
import random
import unittest

from netcourt.claims import find_claim, look_claim
from netcourt.papers import read_paper, show_paper
from claim_samples import (ALL, CLAIM_WORDS, SAMPLE_NET, ClaimCase, chance_claim, chance_deep_claim, lists_within,
                           sample_claims, slow_claim_look, slow_claim_truth, small_nets, words_in)
from samples import GREAT, all_of, chance_nets, full_nets, named_nets, net_of, slow_truth, spoil
from term_samples import edge_nets, full_wide_nets, wide_net


class TestManyNets(ClaimCase):
    def test_each_kind_of_claim(self):
        truths = [self.truth_of(claim) for claim in sample_claims()]
        self.assertEqual(truths, [True, False, True, False, False, False, True, False, True, True, True, True, False,
                                  False, True, True, False, True, False, True, False, True, True])

    def truth_of(self, claim):
        truth = slow_claim_truth(SAMPLE_NET, claim)
        self.assert_found(SAMPLE_NET, claim, truth)
        return truth

    def test_small_nets(self):
        chance = random.Random(11)
        seen = {}
        words = set()
        for net in edge_nets() + chance_nets(12, 60) + small_nets(13, 600):
            for deep in (1, 2, 2, 3, 3, 4):
                claim = chance_claim(chance, net.places(), deep)
                truth = slow_claim_truth(net, claim)
                self.assert_found(net, claim, truth)
                seen[claim[0], truth] = True
                words |= words_in(claim)
        self.assertEqual(len(seen), 2 * len(CLAIM_WORDS))
        self.assertLessEqual({"number", "size", "flow", "apart", "bare", "pairs", "plus", "least", "most", "times",
                              "all", "from", "to", "these"}, words)

    def test_up_to_twelve_deep(self):
        chance = random.Random(14)
        for net in named_nets() + small_nets(15, 200):
            for deep in (5, 8, 12):
                claim = chance_deep_claim(chance, net.places(), deep)
                self.assert_found(net, claim, slow_claim_truth(net, claim))

    def test_twelve_deep_of_one_kind(self):
        net = net_of("a")
        variables = ("A", "B", "C", "A", "B", "C", "A", "X", "Y", "Z", "AA")
        for word, so in (("each", True), ("some", True), ("each", False), ("some", False)):
            claim = ("way", "A", "A") if so else ("not", ("way", "A", "A"))
            for variable in variables[:11 if so else 10][::-1]:
                claim = (word, variable, ALL, claim)
            paper = self.assert_found(net, claim, so)
            self.assertEqual(read_paper(show_paper(paper)), paper)
        for word, number in itertools.product(("and", "or", "not"), (0, 1)):
            claim = ("atmost", ("number", number), ("number", 0))
            for step in range(10):
                claim = ("not", claim) if word == "not" else (word, claim, claim)
            self.assert_found(net, claim, number == 0)

    def test_rows_within_rows_to_the_deepest(self):
        net = net_of("ab", ("t", "a", "b", 0))
        claim = ("cost", "X", "Y", -1)
        for variable in ("X", "Y", "X", "Y", "A", "B"):
            claim = ("some", variable, ALL, claim)
        self.assert_found(net, claim, False)

    def test_nets_with_no_place_and_with_one(self):
        for net in (net_of(""), net_of("a")):
            many = len(net.places())
            self.assert_found(net, ("each", "X", ALL, ("ring",)), many == 0)
            self.assert_found(net, ("some", "X", ALL, ("way", "X", "X")), many == 1)
            self.assert_found(net, ("atmost", ("number", 1), ("size", ALL)), many == 1)
            self.assert_found(net, ("or", ("round",), ("not", ("ring",))), True)
            self.assert_found(net, ("each", "X", ALL, ("each", "Y", ("from", "X"), ("must", "X", "Y", "X"))), True)
            self.assert_found(net, ("some", "X", ("these", []), ("not", ("ring",))), False)
            self.assert_found(net, ("each", "X", ("these", []), ("ring",)), True)


class TestEdges(ClaimCase):
    def test_both_numbers_the_same(self):
        for number in (0, 2, -GREAT, GREAT):
            for less, so in ((0, True), (1, False), (-1, True)):
                self.assert_found(SAMPLE_NET, ("atmost", ("number", number), ("number", number - less)), so)
        net = wide_net("abc", ("t", "a", "b", GREAT), ("u", "b", "c", GREAT - 1))
        self.assert_found(net, ("atmost", ("flow", "a", "b"), ("plus", ("flow", "b", "c"), ("number", 1))), True)
        self.assert_found(net, ("atmost", ("flow", "a", "b"), ("flow", "b", "c")), False)

    def test_either_of_two_and_neither(self):
        yes, no = ("way", "a", "b"), ("way", "b", "a")
        for first, second in itertools.product((yes, no), repeat=2):
            self.assert_found(SAMPLE_NET, ("and", first, second), first == second == yes)
            self.assert_found(SAMPLE_NET, ("or", first, second), yes in (first, second))
            self.assert_found(SAMPLE_NET, ("not", ("and", first, second)), no in (first, second))

    def test_all_places_some_and_none(self):
        for many in range(5):
            kind = ("these", list("abcd")[:many] + list("ab")[:many])
            for inner, places in ((("way", "a", "X"), "abc"), (("way", "X", "c"), "abc"), (("way", "X", "b"), "ab"),
                                  (("way", "X", "X"), "abcd"), (("way", "d", "X"), "d")):
                self.assert_found(SAMPLE_NET, ("each", "X", kind, inner), set(kind[1]) <= set(places))
                self.assert_found(SAMPLE_NET, ("some", "X", kind, inner), bool(set(kind[1]) & set(places)))

    def test_one_of_each_pair_of_variables(self):
        net = net_of("abc", ("t", "a", "b", 1), ("u", "b", "c", 1), ("v", "c", "a", 1))
        for first, second in itertools.product(("each", "some"), repeat=2):
            self.assert_found(net, (first, "X", ALL, (second, "Y", ALL, ("way", "X", "Y"))), True)
            self.assert_found(net, (first, "X", ALL, (second, "Y", ALL, ("cost", "X", "Y", 0))), second == "some")
            self.assert_found(net, (first, "X", ALL, (second, "Y", ALL, ("must", "a", "Y", "X"))),
                              second == "some" or first == "some")


def claims_about_all():
    """Claims that are asked of whole nets, with up to three places at once."""
    def two(claim):
        return ("each", "X", ALL, ("each", "Y", ALL, claim))

    def three(claim):
        return ("each", "X", ALL, ("each", "Y", ("from", "X"), ("each", "Z", ("to", "Y"), claim)))

    flow = ("flow", "X", "Y")
    return [
        two(("atmost", ("bare", "X", "Y"), ("apart", "X", "Y"))),
        two(("atmost", ("apart", "X", "Y"), ("flow", "X", "Y"))),
        two(("atmost", ("pairs", ("from", "X"), ("to", "Y")), ("pairs", ALL, ALL))),
        two(("atmost", ("flow", "X", "Y"), ("times", GREAT, ("apart", "X", "Y")))),
        three(("or", ("not", ("way", "Z", "X")), ("way", "Z", "Y"))),
        three(("or", ("must", "X", "Y", "Z"), ("not", ("must", "X", "Y", "Z")))),
        three(("atmost", ("least", flow, ("flow", "Y", "Z")), ("most", flow, ("number", 0)))),
        ("some", "X", ALL, ("each", "Y", ALL, ("way", "X", "Y"))),
        ("each", "X", ALL, ("some", "Y", ALL, ("and", ("not", ("must", "X", "Y", "X")), ("ring",)))),
        two(("or", ("cost", "X", "Y", GREAT), ("not", ("cost", "X", "Y", -GREAT)))),
        two(("or", ("not", ("cost", "X", "Y", -GREAT)), ("cost", "X", "Y", GREAT))),
    ]


class TestFullNets(ClaimCase):
    """Twenty places and forty ties, widths and costs of sixty figures among them."""

    def test_claims_about_all(self):
        truths = [True, True, True, True, True, True, True, None, False, None, True]
        for net in full_nets()[5:6] + full_wide_nets()[3:4] + full_wide_nets()[-1:]:
            for claim, truth in zip(claims_about_all(), truths):
                self.assert_found(net, claim, truth)

    def test_claims_held_against_others_reckoned_otherwise(self):
        chance = random.Random(16)
        for net in full_nets():
            for number in range(4):
                a, b, x = chance.sample(net.places(), 3)
                claim = ("each", "X", ("from", a), ("or", ("way", "X", b), ("some", "Y", ("to", x), ("way", "Y", "X"))))
                self.assert_found(net, claim, slow_claim_truth(net, claim))
                claim = ("some", "X", ("to", b), ("and", ("not", ("must", a, b, "X")), ("cost", a, "X", -1)))
                self.assert_found(net, claim, slow_claim_truth(net, claim))
                least = ("each", "X", ("from", a), ("or", ("must", a, b, "X"), ("way", "X", x)))
                self.assert_found(net, least, slow_claim_truth(net, least))

    def test_great_numbers_take_no_longer(self):
        net = wide_net("abcd", ("t", "a", "c", GREAT), ("u", "a", "d", GREAT), ("v", "c", "d", 1),
                       ("w", "c", "b", GREAT), ("x", "d", "b", GREAT), ("y", "d", "c", 1))
        self.assert_found(net, ("atmost", ("flow", "a", "b"), ("times", 2, ("number", GREAT))), True)
        self.assert_found(net, ("atmost", ("flow", "a", "b"), ("number", 2 * GREAT - 1)), False)
        net.tie("z", "b", "a", 1, -3)
        self.assert_found(net, ("each", "X", ALL, ("each", "Y", ALL, ("cost", "X", "Y", -GREAT))),
                          slow_truth(net, ("ring",)))

    def test_a_claim_with_very_many_parts(self):
        net = full_wide_nets()[3]
        term = ("plus", ("flow", net.places()[0], net.places()[5]), ("size", ALL))
        for step in range(8):
            term = (("plus", "least", "most")[step % 3], term, term)
        found = find_claim(net, ("atmost", term, ("plus", term, ("number", -1))))
        self.assertIs(found[0], False)
        claim = ("atmost", ("number", 1), ("number", 1))
        for step in range(10):
            claim = (("and", "or")[step % 2], claim, claim)
        self.assertIs(find_claim(net, claim)[0], True)


class TestWhatIsTold(ClaimCase):
    def test_told_papers_are_the_askers_own(self):
        chance = random.Random(17)
        for net in [SAMPLE_NET] + small_nets(18, 150):
            claims = sample_claims() if net is SAMPLE_NET else []
            for claim in claims + [chance_claim(chance, net.places(), chance.randint(2, 4)) for number in range(5)]:
                ahead = copy.deepcopy((all_of(net), claim))
                told = find_claim(net, claim)
                as_was = copy.deepcopy(told)
                spoil(told[1])
                self.assertEqual((all_of(net), claim), ahead)
                self.assertEqual(find_claim(net, claim), as_was)

    def test_a_claim_changed_behind_changes_nothing_told(self):
        names = ["a", "b"]
        claim = ("each", "X", ("these", names), ("atmost", ("number", 1), ("size", ("these", names))))
        told = find_claim(SAMPLE_NET, claim)
        as_was = copy.deepcopy(told)
        names.append("c")
        self.assertEqual(told, as_was)
        self.assertIs(look_claim(SAMPLE_NET, claim, True, told[1]), False)
        self.assert_found(SAMPLE_NET, claim, True)

    def test_later_deeds_change_nothing_told(self):
        net = net_of("abcd", ("t", "a", "b", 1), ("u", "b", "c", 2), ("v", "a", "b", 4))
        told = [find_claim(net, claim) for claim in sample_claims()]
        as_was = copy.deepcopy(told)
        net.cut("t")
        net.alter("u", 5, -5)
        net.tie("w", "c", "e", 4, 1)
        for claim in sample_claims():
            self.assert_found(net, claim, slow_claim_truth(net, claim))
        self.assertEqual(told, as_was)

    def test_told_papers_have_texts_and_may_be_handed_in_again(self):
        for net in [SAMPLE_NET] + full_wide_nets()[3:4]:
            for claim in sample_claims() if net is SAMPLE_NET else claims_about_all()[:5]:
                so, paper = find_claim(net, claim)
                again = read_paper(show_paper(paper))
                self.assertEqual(again, paper)
                self.assertIs(look_claim(net, claim, so, again), True)
                self.assertEqual(lists_within(again), lists_within(paper))

    def test_never_both(self):
        chance = random.Random(19)
        for net in small_nets(20, 150):
            for number in range(5):
                claim = chance_claim(chance, net.places(), chance.randint(1, 3))
                so, paper = find_claim(net, claim)
                other_so, other = find_claim(net, ("not", claim))
                self.assertIs(other_so, not so)
                for each in (paper, other):
                    self.assertIs(look_claim(net, claim, so, each), True)
                    self.assertIs(look_claim(net, ("not", claim), not so, each), True)
                    self.assertIs(look_claim(net, claim, not so, each), False)
                    self.assertIs(slow_claim_look(net, claim, not so, each), False)


if __name__ == "__main__":
    unittest.main()
