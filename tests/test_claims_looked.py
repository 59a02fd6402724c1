"""The looker at papers for and against claims put together."""

import random
import unittest

from netcourt.claims import find_claim, look_claim
from claim_samples import (ALL, CLAIM_WORDS, SAMPLE_NET, ClaimCase, chance_claim, sample_claims, slow_claim_look,
                           slow_claim_truth, small_nets)
from samples import GREAT, NO_PAPERS, ODD_PARTS, all_of, changed_papers, named_nets, net_of

# a leads to b by t and v, b to c by u; d stands apart.
NET = SAMPLE_NET
YES, NO = ("way", "a", "b"), ("way", "b", "a")
FOR_YES, AGAINST_NO = ["t"], ["b", "c"]


class TestAtmost(ClaimCase):
    def test_for(self):
        claim = ("atmost", ("size", ("from", "a")), ("flow", "a", "b"))
        self.assertIs(slow_claim_truth(NET, claim), False)
        claim = ("atmost", ("flow", "a", "b"), ("size", ("from", "a")))
        rows = [["c", ["v", "u"]], ["a", []]]
        self.assert_papers(NET, claim, True, [["a"], rows], [["a"], rows + [["b", ["t"]]]], [["d", "a"], rows])
        self.assert_no_papers(NET, claim, [["a"], rows[:1]], [["a"], []], [["a", "b"], rows],
                              [[["t", 1], ["v", 1]], list("abc")], [[["t", 1]], rows], [["a"], list("abc")],
                              [["a"]], [["a"], rows, []], [1, ["a"]], [2, rows], [rows, ["a"]], [], ["a"], [[], []])

    def test_against(self):
        claim = ("atmost", ("size", ("from", "a")), ("flow", "a", "b"))
        rows = [["c", ["v", "u"]], ["a", []], ["b", ["v"]]]
        self.assert_papers(NET, claim, False, [rows, ["a"]], [rows, ["a", "d"]])
        self.assert_no_papers(NET, claim, [rows[1:], ["a"]], [[], ["a"]], [rows, [["t", 1], ["v", 1]]], [rows, []],
                              [list("abc"), ["a"]], [["a"], rows], [rows], [rows, ["a"], []], [1, rows], [])

    def test_both_numbers_the_same(self):
        for number in (0, 1, -1, GREAT, -GREAT):
            same = ("number", number)
            self.assert_papers(NET, ("atmost", same, same), True, [[], []])
            self.assert_papers(NET, ("atmost", same, ("number", number + 1)), True, [[], []])
            self.assert_papers(NET, ("atmost", ("number", number + 1), same), False, [[], []])

    def test_papers_that_show_the_same_number(self):
        claim = ("atmost", ("flow", "a", "b"), ("size", ("these", ["a", "b"])))
        rows = [["a", []], ["b", []]]
        self.assert_papers(NET, claim, True, [["a"], rows])
        self.assert_no_papers(NET, claim, [["a"], rows[1:]], [["a", "b", "c"], rows],
                              [[["t", 1], ["v", 1]], ["a", "b"]])

    def test_papers_from_the_wrong_side(self):
        claim = ("atmost", ("size", ALL), ("plus", ("size", ALL), ("number", 0)))
        above, below = list("abcd"), [[place, []] for place in "abcd"]
        self.assert_papers(NET, claim, True, [above, [below, []]])
        self.assert_no_papers(NET, claim, [below, [below, []]], [above, [above, []]], [below, [above, []]],
                              [above, below], [above, []])

    def test_a_looser_paper_may_show_less_than_is_true(self):
        claim = ("atmost", ("apart", "a", "c"), ("number", 1))
        self.assert_papers(NET, claim, True, [["a", "b"], []], [["b", "a", "d"], []])
        self.assert_no_papers(NET, claim, [["a"], []], [["a", "c"], []])


class TestNot(ClaimCase):
    def test_for_is_one_against_what_it_denies(self):
        self.assert_papers(NET, ("not", NO), True, AGAINST_NO, ["c", "b", "d"])
        self.assert_papers(NET, ("not", YES), False, FOR_YES, ["v"])
        self.assert_papers(NET, ("not", ("not", YES)), True, FOR_YES)
        self.assert_papers(NET, ("not", ("not", ("not", YES))), False, FOR_YES)
        self.assert_papers(NET, ("not", ("ring",)), True, [["a", 0], ["b", 0], ["c", 0], ["d", 0]])
        self.assert_papers(NET, ("not", ("atmost", ("number", 2), ("number", 1))), True, [[], []])

    def test_what_is_none(self):
        self.assert_no_papers(NET, ("not", NO), [AGAINST_NO], [1, AGAINST_NO], [], ["t"], ["b"], ["a", "b", "c"])
        self.assert_no_papers(NET, ("not", YES), [FOR_YES], [1, FOR_YES], ["u"], [], AGAINST_NO)


class TestAndOr(ClaimCase):
    BOTH, ONE = ("and", YES, ("not", NO)), ("and", YES, NO)
    OTHER, NEITHER = ("or", NO, YES), ("or", NO, ("not", YES))

    def test_both_are_asked_for(self):
        self.assert_papers(NET, self.BOTH, True, [FOR_YES, AGAINST_NO])
        self.assert_papers(NET, self.NEITHER, False, [AGAINST_NO, FOR_YES])
        for claim, first, second in ((self.BOTH, FOR_YES, AGAINST_NO), (self.NEITHER, AGAINST_NO, FOR_YES)):
            self.assert_no_papers(NET, claim, [second, first], [first], [second], [first, second, []], [], first,
                                  [1, first], [2, second], [1, first, second], [[1, first], [2, second]],
                                  [first, [2, second]], [[first, second]], [first, []], [[], second], (first, second),
                                  [first, None], [None, second], [True, True], [1, 2])

    def test_one_is_asked_for(self):
        self.assert_papers(NET, self.ONE, False, [2, AGAINST_NO])
        self.assert_papers(NET, self.OTHER, True, [2, FOR_YES], [2, ["v"]])
        self.assert_papers(NET, ("and", NO, NO), False, [1, AGAINST_NO], [2, AGAINST_NO])
        self.assert_papers(NET, ("or", YES, ("not", NO)), True, [1, FOR_YES], [2, AGAINST_NO])
        for claim, paper in ((self.ONE, AGAINST_NO), (self.OTHER, FOR_YES)):
            self.assert_no_papers(NET, claim, [1, paper], [3, paper], [0, paper], [-1, paper], [-2, paper],
                                  [True, paper], [False, paper], ["2", paper], ["b", paper], [[2], paper],
                                  [None, paper], [GREAT, paper], [2], [2, paper, []], [2, paper, paper], [[2, paper]],
                                  [paper, 2], [paper, paper], paper, [], 2, (2, paper), [2, [paper]], [2, []],
                                  [2, None], [2, True], [2, tuple(paper)])

    def test_a_truth_is_no_number(self):
        claim = ("or", YES, NO)
        self.assert_papers(NET, claim, True, [1, FOR_YES])
        self.assert_no_papers(NET, claim, [True, FOR_YES])

    def test_within_one_another(self):
        claim = ("and", ("or", NO, YES), ("not", ("and", NO, YES)))
        self.assert_papers(NET, claim, True, [[2, FOR_YES], [1, AGAINST_NO]])
        self.assert_no_papers(NET, claim, [[1, FOR_YES], [1, AGAINST_NO]], [[2, FOR_YES], [2, AGAINST_NO]],
                              [2, [1, AGAINST_NO]], [[2, FOR_YES], AGAINST_NO])


class TestRows(ClaimCase):
    """Papers for each and against some: one for all places of a list."""
    EACH = ("each", "X", ("from", "b"), ("way", "a", "X"))
    NONE = ("some", "X", ("from", "b"), ("way", "X", "a"))
    ROWS = [["b", ["t"]], ["c", ["v", "u"]]]
    NO_ROWS = [["b", ["b", "c"]], ["c", ["c"]]]

    def test_in_any_order(self):
        for claim, so, rows in ((self.EACH, True, self.ROWS), (self.NONE, False, self.NO_ROWS)):
            self.assert_papers(NET, claim, so, [["b", "c"], rows], [["c", "b"], rows], [["b", "c"], rows[::-1]],
                               [["c", "b"], rows[::-1]])

    def test_a_list_longer_than_the_set(self):
        self.assert_papers(NET, self.EACH, True, [["a", "b", "c"], self.ROWS + [["a", []]]])
        self.assert_papers(NET, self.NONE, False, [["d", "b", "c"], self.NO_ROWS + [["d", ["d"]]]])
        self.assert_no_papers(NET, self.EACH, [["b", "c", "d"], self.ROWS], [["a", "b", "c"], self.ROWS],
                              [["b", "c", "d"], self.ROWS + [["d", []]]], [["b", "c", "d"], self.ROWS + [["d", ["d"]]]])

    def test_rows_left_out_doubled_or_of_other_places(self):
        for claim, rows in ((self.EACH, self.ROWS), (self.NONE, self.NO_ROWS)):
            more = [["a", []], ["d", ["d"]]]
            for others in (rows[:1], rows[1:], [], rows + rows[:1], rows + rows, rows[:1] + rows[:1],
                           rows[1:] + rows[1:], rows + more[:1], rows + more[1:], rows[:1] + more[:1],
                           rows[1:] + more[1:], more, rows + [["z", []]], rows + [["t", []]], rows + [[]],
                           rows + [["b"]], rows + [None]):
                self.assert_no_papers(NET, claim, [["b", "c"], others], [["c", "b"], others])

    def test_rows_of_another_shape(self):
        for claim, rows in ((self.EACH, self.ROWS), (self.NONE, self.NO_ROWS)):
            place, paper = rows[0]
            for row in ([place], [paper], [place, paper, []], [paper, place], [place, [paper]], [place, []],
                        [place, None], [[place], paper], [None, paper], [True, paper], [0, paper], [1, paper],
                        ["z", paper], ["X", paper], ["", paper], (place, paper), [place, tuple(paper)], place, paper,
                        None, 0, True, {place: paper}, [[], paper], [(place,), paper], [place, place]):
                self.assert_no_papers(NET, claim, [["b", "c"], [row, rows[1]]], [["b", "c"], [rows[1], row]])
            for others in (None, True, (), tuple(rows), {}, {"b": []}, "bc", "", 0, 2, dict(rows)):
                self.assert_no_papers(NET, claim, [["b", "c"], others])

    def test_lists_that_the_set_does_not_lie_within(self):
        for claim, rows in ((self.EACH, self.ROWS), (self.NONE, self.NO_ROWS)):
            for places in (["b"], ["c"], [], ["b", "b"], ["b", "c", "c"], ["b", "c", "z"], ["b", "c", None], ("b", "c"),
                           "bc", None, {"b": 1, "c": 1}, [["b"], "c"], ["b", "c", "X"], [["b", "c"]], 2, True):
                self.assert_no_papers(NET, claim, [places, rows], [places, rows[:1]], [places, rows[1:]],
                                      [places, rows + [["z", []]]], [places, []])

    def test_wholes_of_another_shape(self):
        for claim, rows in ((self.EACH, self.ROWS), (self.NONE, self.NO_ROWS)):
            self.assert_no_papers(NET, claim, [], [["b", "c"]], [rows], rows, ["b", "c"], [["b", "c"], rows, []],
                                  [["b", "c"]] + rows, [rows, ["b", "c"]], (["b", "c"], rows), [[["b", "c"], rows]],
                                  ["b", ["u"], ["t"]], ["c", ["u"], ["t", "u"]], ["b", [], ["b", "c"]], *NO_PAPERS)

    def test_a_set_of_no_place(self):
        for inner in (YES, NO, ("way", "X", "a"), ("ring",)):
            for net, kind in ((NET, ("these", [])), (net_of(""), ALL), (net_of(""), ("these", []))):
                if net is NET or inner == ("ring",):
                    self.assert_papers(net, ("each", "X", kind, inner), True, [[], []])
                    self.assert_papers(net, ("some", "X", kind, inner), False, [[], []])
                    for word in ("each", "some"):
                        self.assert_no_papers(net, (word, "X", kind, inner), [], [[]], [[], [], []], [[], [[]]],
                                              [[], ()], [(), []], [[], None], ["a", [], ["t"]], ["a", [], []], [[], 0])
        self.assert_papers(NET, ("each", "X", ("these", []), YES), True, [["c"], [["c", ["v"]]]])
        self.assert_papers(NET, ("some", "X", ("these", []), NO), False, [["c"], [["c", ["b", "c"]]]])

    def test_names_of_a_list_that_stand_twice(self):
        claim = ("each", "X", ("these", ["c", "b", "c"]), ("way", "a", "X"))
        self.assert_papers(NET, claim, True, [["b", "c"], self.ROWS], [["c", "b"], self.ROWS])
        self.assert_no_papers(NET, claim, [["c", "b", "c"], self.ROWS + self.ROWS[1:]], [["c", "b", "c"], self.ROWS])

    def test_a_paper_for_another_place(self):
        self.assert_no_papers(NET, self.EACH, [["b", "c"], [["c", ["t"]], ["b", ["v", "u"]]]],
                              [["b", "c"], [["b", ["t"]], ["c", ["t"]]]])


class TestOnePlace(ClaimCase):
    """Papers against each and for some: one place is enough."""
    SOME = ("some", "X", ("from", "a"), ("way", "X", "c"))
    NOT_EACH = ("each", "X", ("to", "c"), ("way", "X", "a"))

    def test_a_place_of_the_set(self):
        self.assert_papers(NET, self.SOME, True, ["a", [], ["t", "u"]], ["b", ["t"], ["u"]], ["b", ["v"], ["u"]],
                           ["c", ["t", "u"], []])
        self.assert_papers(NET, self.NOT_EACH, False, ["b", ["u"], ["b", "c"]], ["c", [], ["c"]], ["c", [], ["d", "c"]])
        self.assert_papers(NET, ("some", "X", ALL, ("way", "X", "c")), True, ["b", [], ["u"]])
        self.assert_papers(NET, ("each", "X", ("these", ["a", "d", "d"]), ("way", "X", "b")), False, ["d", [], ["d"]])

    def test_a_place_that_is_not_in_the_set(self):
        net = net_of("abcd", ("t", "a", "b", 1), ("u", "d", "c", 1))
        claim = ("some", "X", ("from", "a"), ("way", "X", "c"))
        self.assert_papers(net, claim, False, [["a", "b"], [["a", ["a", "b"]], ["b", ["b"]]]])
        self.assert_no_papers(net, claim, ["d", [], ["u"]], ["d", ["u"], ["u"]], ["c", [], []], ["c", ["u"], []],
                              ["d", ["t"], ["u"]])
        claim = ("each", "X", ("these", ["a"]), ("way", "X", "b"))
        self.assert_no_papers(net, claim, ["d", [], ["d", "c"]], ["b", [], ["b"]])

    def test_a_members_paper_that_is_none(self):
        for paper in (["u"], ["t", "t"], [], ["t", "u"], "t", None, (), ("t",), True, [["t"]], 1, ["z"]):
            self.assert_no_papers(NET, self.SOME, ["b", paper, ["u"]])
        for paper in (["t"], [[]], None, (), "", 0, False, {}, ["u"]):
            self.assert_no_papers(NET, ("some", "X", ALL, ("way", "X", "c")), ["b", paper, ["u"]])

    def test_a_paper_that_is_none_with_the_place(self):
        self.assert_no_papers(NET, self.SOME, ["b", ["t"], []], ["b", ["t"], ["t", "u"]], ["b", ["t"], ["v"]],
                              ["b", ["t"], ["b"]], ["b", ["t"], None], ["c", ["t", "u"], ["u"]], ["a", [], ["u"]],
                              ["b", ["t"], ("u",)], ["b", ["t"], [["u"]]])
        self.assert_no_papers(NET, self.NOT_EACH, ["b", ["u"], ["b"]], ["b", ["u"], ["b", "c", "a"]],
                              ["a", ["t", "u"], []], ["c", [], ["b"]], ["c", [], []])

    def test_of_another_shape(self):
        for claim, good in ((self.SOME, ["b", ["t"], ["u"]]), (self.NOT_EACH, ["b", ["u"], ["b", "c"]])):
            place, member, paper = good
            self.assert_no_papers(NET, claim, [place, member], [place, paper], [place], [], place, [member, paper],
                                  [place, member, paper, []], [place, paper, member], [member, place, paper],
                                  [[place], member, paper], [[place, member, paper]], [place, [member, paper]],
                                  tuple(good), [None, member, paper], [True, member, paper], [1, member, paper],
                                  ["z", member, paper], ["X", member, paper], ["t", member, paper], [(), member, paper],
                                  [1, good], [[place], [good]], [[place], [[place, paper]]], *NO_PAPERS)


class TestVariables(ClaimCase):
    def test_one_within_another(self):
        claim = ("each", "X", ("these", ["a", "b"]), ("some", "Y", ("from", "X"), ("must", "X", "c", "Y")))
        good = [["a", "b"], [["a", ["b", ["t"], ["a"]]], ["b", ["c", ["u"], ["b"]]]]]
        self.assert_papers(NET, claim, True, good, [["a", "b"], [["b", ["b", [], []]], ["a", ["a", [], []]]]])
        self.assert_no_papers(NET, claim, [["a", "b"], [["a", ["b", ["t"], ["a"]]], ["b", ["b", ["t"], []]]]],
                              [["a", "b"], [["a", ["a", [], ["a"]]], ["b", ["c", ["u"], ["b"]]]]])

    def test_told_again(self):
        claim = ("each", "X", ("these", ["a"]), ("some", "X", ("from", "X"), ("way", "X", "X")))
        self.assert_papers(NET, claim, True, [["a"], [["a", ["c", ["t", "u"], []]]]])
        claim = ("each", "X", ("these", ["c"]), ("some", "X", ("to", "X"), ("not", ("way", "X", "a"))))
        self.assert_papers(NET, claim, True, [["c"], [["c", ["b", ["u"], ["b", "c"]]]]])
        self.assert_no_papers(NET, claim, [["c"], [["c", ["b", ["u"], ["c"]]]]],
                              [["c"], [["c", ["b", [], ["b", "c"]]]]])

    def test_in_terms(self):
        claim = ("each", "X", ("these", ["b", "c"]), ("atmost", ("size", ("from", "X")), ("size", ("to", "X"))))
        shown = {"b": [["b", "c"], [["b", []], ["a", ["v"]]]], "c": [["c"], [["c", []]]]}
        rows = [[place, shown[place]] for place in "bc"]
        self.assert_papers(NET, claim, True, [["b", "c"], rows])
        self.assert_no_papers(NET, claim, [["b", "c"], [["b", shown["c"]], ["c", shown["b"]]]])


class TestAnyPaper(ClaimCase):
    def test_of_another_shape_altogether(self):
        chance = random.Random(5)
        odd = ODD_PARTS + ("a", "t", 2, 3, [1, []], [2, []], [3, []], [True, []], [1, None], [2, ()], [[], None],
                           [(), []], [["a"], [["a", []]]], ["a", [], []], ["a", [], None], ["a", (), []], [None] * 3,
                           [[]] * 3, [True, [], []], [[], [None]], [[], [True]], [["a"], [("a", [])]])
        for net in (NET, net_of("a"), net_of("")):
            claims = sample_claims() if net is NET else []
            claims += [chance_claim(chance, net.places(), chance.randint(1, 4)) for number in range(40)]
            for claim in claims:
                truth = slow_claim_truth(net, claim)
                for paper in odd:
                    for so in (True, False):
                        self.assert_look(net, claim, so, paper, slow_claim_look(net, claim, so, paper))
                    self.assertFalse(look_claim(net, claim, not truth, paper), (claim, paper))

    def test_papers_with_one_part_changed(self):
        chance = random.Random(6)
        seen = {}
        for net in [SAMPLE_NET] + small_nets(7, 40):
            names = net.places() + [row[0] for row in net.ties()][:2]
            claims = sample_claims()[8:] if net is SAMPLE_NET else []
            for claim in claims + [chance_claim(chance, net.places(), chance.choice((2, 2, 3))) for number in range(7)]:
                truth = slow_claim_truth(net, claim)
                for paper in changed_papers(find_claim(net, claim)[1], names):
                    told = look_claim(net, claim, truth, paper)
                    self.assertIs(told, slow_claim_look(net, claim, truth, paper), (all_of(net), claim, paper))
                    self.assertIs(look_claim(net, claim, not truth, paper), False, (all_of(net), claim, paper))
                    seen[claim[0], truth, told] = True
        words = set(CLAIM_WORDS[5:])
        self.assertLessEqual({(word, truth, told) for word in words for truth in (True, False)
                              for told in (True, False)}, set(seen))

    def test_papers_of_other_claims(self):
        chance = random.Random(8)
        for net in named_nets()[3:7] + small_nets(9, 20):
            claims = [chance_claim(chance, net.places(), chance.randint(2, 3)) for number in range(25)]
            papers = [find_claim(net, claim)[1] for claim in claims]
            for claim in claims:
                truth = slow_claim_truth(net, claim)
                for paper in papers:
                    self.assertIs(look_claim(net, claim, not truth, paper), False, (all_of(net), claim, paper))
                    self.assert_look(net, claim, truth, paper, slow_claim_look(net, claim, truth, paper))

    def test_the_net_of_now_is_looked_at(self):
        net = net_of("ab", ("t", "a", "b", 1))
        claim = ("each", "X", ALL, ("way", "a", "X"))
        paper = [["a", "b"], [["a", []], ["b", ["t"]]]]
        self.assert_look(net, claim, True, paper, True)
        net.place("c")
        self.assert_look(net, claim, True, paper, False)
        net = net_of("ab", ("t", "a", "b", 1))
        net.cut("t")
        self.assert_look(net, claim, True, paper, False)


if __name__ == "__main__":
    unittest.main()
