"""The looker at papers from above and from below: numbers, sizes, pairs, terms put together, and what is no paper."""

import copy
import inspect
import random
import unittest

from netcourt.bounds import shown_bound
from netcourt.bounds_found import bound_paper
from samples import GREAT, NO_PAPERS, ODD_PARTS, all_of, changed_papers, net_of
from term_samples import (BoundCase, across_terms, chance_term, chance_wide_nets, edge_nets, set_terms, slow_shown,
                          slow_value, wide_net)

# f stands apart; b and c lead to one another.
NET = wide_net("abcdef", ("t", "a", "b", 2), ("u", "b", "c", 3), ("v", "c", "b", 1), ("w", "d", "a", 1),
               ("x", "d", "e", 1), ("a", "a", "b", 1))
ALL = ("all",)


class TestNumber(BoundCase):
    def test_of_either_sign(self):
        for number in (0, 1, -1, 7, -7, GREAT, -GREAT):
            for net in (NET, net_of("")):
                self.assert_above(net, ("number", number), (number, []))
                self.assert_below(net, ("number", number), (number, []))

    def test_nothing_else_is_a_paper(self):
        for number in (0, 5, -GREAT):
            papers = NO_PAPERS + (number, [number], "", "a", [[]], [0], ["a"], ["t"], [1, []])
            self.assert_none_above(NET, ("number", number), *papers)
            self.assert_none_below(NET, ("number", number), *papers)


class TestSizeAbove(BoundCase):
    def test_all(self):
        self.assert_above(NET, ("size", ALL), (6, list("abcdef")), (6, list("fbdeca")))
        self.assert_none_above(NET, ("size", ALL), [], list("abcde"), list("bcdef"), list("abcdeff"), list("abcdefz"),
                               list("abcdez"), "abcdef", tuple("abcdef"), 6)
        self.assert_above(net_of(""), ("size", ALL), (0, []))
        self.assert_none_above(net_of(""), ("size", ALL), ["a"], (), "", 0)

    def test_from(self):
        self.assert_above(NET, ("size", ("from", "a")), (3, list("abc")), (3, list("cba")), (4, list("abcf")),
                          (4, list("abce")), (6, list("abcdef")))
        self.assert_none_above(NET, ("size", ("from", "a")), [], ["a"], ["b", "c"], list("abcd"), list("abcc"),
                               list("abcz"), list("abct"), ["a", "b", ["c"]], ["a", "b", "c", 1])

    def test_to(self):
        self.assert_above(NET, ("size", ("to", "b")), (4, list("abcd")), (5, list("fdcba")), (6, list("abcdef")))
        self.assert_above(NET, ("size", ("to", "f")), (1, ["f"]), (2, ["f", "d"]))
        self.assert_none_above(NET, ("size", ("to", "b")), [], ["b"], list("abc"), list("acd"), list("bcd"),
                               list("aabcd"), list("abcdz"))
        self.assert_none_above(NET, ("size", ("to", "f")), [], ["d"], ["f", "a"], ["f", "f"])

    def test_these(self):
        self.assert_above(NET, ("size", ("these", ["b", "a", "b"])), (2, ["a", "b"]), (2, ["b", "a"]),
                          (3, ["b", "e", "a"]))
        self.assert_above(NET, ("size", ("these", [])), (0, []), (1, ["d"]))
        self.assert_none_above(NET, ("size", ("these", ["b", "a", "b"])), [], ["a"], ["b"], ["b", "a", "b"],
                               ["a", "b", "z"])
        self.assert_none_above(NET, ("size", ("these", [])), ["d", "d"], ["z"], (), None, 0)


class TestSizeBelow(BoundCase):
    def test_all(self):
        self.assert_below(NET, ("size", ALL), (0, []), (1, [["f", []]]), (2, [["f", []], ["a", []]]),
                          (6, [[place, []] for place in "fedcba"]))
        self.assert_none_below(NET, ("size", ALL), [["f", []], ["f", []]], [["z", []]], [["t", []]], ["f"], [["f"]],
                               [["f", [], []]], [["f", ["t"]]], [["f", None]], [["f", ()]], [("f", [])],
                               (["f", []],), [[["f"], []]], [[1, []]], [["f", 0]], [["f", "f"]])
        self.assert_below(net_of(""), ("size", ALL), (0, []))

    def test_from(self):
        self.assert_below(NET, ("size", ("from", "a")), (0, []), (1, [["a", []]]),
                          (3, [["c", ["t", "u"]], ["b", ["a", "u", "v"]], ["a", []]]))
        self.assert_none_below(NET, ("size", ("from", "a")), [["b", []]], [["b", ["u"]]], [["b", ["t", "u"]]],
                               [["d", ["w"]]], [["a", ["t"]]], [["b", ["t"]], ["b", ["a"]]], [["b", ["t", "t"]]],
                               [["b", "t"]], [["b", ["zz"]]], [["b", [True]]], [["a", []], ["f", []]])

    def test_to(self):
        self.assert_below(NET, ("size", ("to", "b")), (0, []), (1, [["b", []]]),
                          (4, [["d", ["w", "a"]], ["a", ["t"]], ["c", ["v"]], ["b", ["u", "v"]]]))
        self.assert_none_below(NET, ("size", ("to", "b")), [["a", []]], [["e", []]], [["d", ["t"]]], [["d", ["w"]]],
                               [["a", ["t"]], ["a", ["a"]]], [["c", ["u"]]], [["d", ["a", "w"]]])

    def test_these(self):
        term = ("size", ("these", ["b", "a", "b"]))
        self.assert_below(NET, term, (0, []), (1, [["b", []]]), (2, [["a", []], ["b", []]]))
        self.assert_none_below(NET, term, [["c", []]], [["b", []], ["b", []]], [["b", ["u", "v"]]], [["z", []]])
        self.assert_below(NET, ("size", ("these", [])), (0, []))
        self.assert_none_below(NET, ("size", ("these", [])), [["a", []]])


class TestPairsBelow(BoundCase):
    def test_all(self):
        term = ("pairs", ALL, ALL)
        self.assert_below(NET, term, (0, []), (1, [["t", [], []]]), (2, [["t", [], []], ["u", [], []]]),
                          (3, [["a", [], []], ["u", [], []], ["w", [], []]]),
                          (3, [["x", [], []], ["u", [], []], ["t", [], []]]))
        self.assert_none_below(NET, term, [["w", [], []], ["x", [], []]], [["t", [], []], ["v", [], []]],
                               [["t", [], []], ["a", [], []]], [["t", [], []], ["t", [], []]], [["zz", [], []]],
                               [["b", [], []]], [["t", []]], [["t", [], [], []]], [["t"]], ["t"], [[]], [["t", [], 0]],
                               [["t", (), []]], [["t", [], None]], [("t", [], [])], [[["t"], [], []]], [[1, [], []]])

    def test_a_beginning_and_an_end_may_be_one_place(self):
        net = wide_net("abc", ("t", "a", "b", 1), ("u", "b", "c", 1), ("v", "c", "a", 1))
        self.assert_below(net, ("pairs", ALL, ALL), (3, [["t", [], []], ["u", [], []], ["v", [], []]]))
        both = wide_net("ab", ("t", "a", "b", 1), ("u", "b", "a", 1))
        self.assert_below(both, ("pairs", ("these", ["a", "b"]), ("these", ["b", "a"])),
                          (2, [["t", [], []], ["u", [], []]]))

    def test_sets_of_all_kinds(self):
        self.assert_below(NET, ("pairs", ("from", "a"), ("to", "b")), (0, []), (1, [["t", [], []]]),
                          (2, [["t", [], ["u", "v"]], ["u", ["t"], ["v"]]]), (1, [["v", ["a", "u"], []]]))
        self.assert_below(NET, ("pairs", ("to", "e"), ("these", ["e", "a"])), (1, [["w", ["x"], []]]))
        self.assert_below(NET, ("pairs", ("these", ["d"]), ("from", "d")), (1, [["x", [], ["x"]]]),
                          (1, [["w", [], ["w"]]]))

    def test_members_papers_that_are_none(self):
        self.assert_none_below(NET, ("pairs", ("from", "a"), ("to", "b")), [["t", ["t"], []]], [["t", [], ["t"]]],
                               [["t", [], ["u"]]], [["u", [], ["v"]]], [["u", ["t"], []]], [["x", ["x"], []]],
                               [["w", [], ["t"]]], [["t", "", []]], [["t", [], [["u", "v"]]]])
        self.assert_none_below(NET, ("pairs", ("these", ["d"]), ("these", ["b"])), [["t", [], []]], [["w", [], []]])
        self.assert_none_below(NET, ("pairs", ("these", []), ALL), [["t", [], []]])
        self.assert_none_below(NET, ("pairs", ALL, ("these", [])), [["t", [], []]])


class TestPairsAbove(BoundCase):
    def test_all(self):
        every = list("abcdef")
        term = ("pairs", ALL, ALL)
        self.assert_above(NET, term, (3, [every, every, ["d"], ["b", "c"]]), (4, [every, every, list("abcd"), []]),
                          (4, [every, every, [], list("abce")]), (3, [every[::-1], every, list("bd"), ["b"]]),
                          (5, [every, every, list("bdf"), ["b", "d"]]), (12, [every] * 4))
        self.assert_none_above(NET, term, [every, every, ["d"], ["b"]], [every, every, [], ["b", "c"]],
                               [every, every, ["d", "d"], ["b", "c"]], [every, every, ["d"], ["b", "c", "b"]],
                               [every, every, ["d", "z"], ["b", "c"]], [every, every, ["d"], ["b", "c", "t"]],
                               [list("abcde"), every, ["d"], ["b", "c"]], [every, list("bcdef"), ["d"], ["b", "c"]],
                               [every + ["a"], every, ["d"], ["b", "c"]], [every, every + ["z"], ["d"], ["b", "c"]],
                               [every, every, ["d"]], [every, every, ["d"], ["b", "c"], []], [every, every], every,
                               (every, every, ["d"], ["b", "c"]), [every, every, ("d",), ["b", "c"]],
                               [every, every, ["d"], "bc"], [every, every, ["d"], None], [every, every, 1, 2])

    def test_sets_of_all_kinds(self):
        term = ("pairs", ("from", "a"), ("to", "b"))
        self.assert_above(NET, term, (2, [list("abc"), list("abcd"), ["b"], ["b"]]),
                          (2, [list("abc"), list("abcd"), [], ["b", "c"]]),
                          (3, [list("cba"), list("dcba"), list("abc"), []]),
                          (3, [list("abcdef"), list("abcdef"), ["b", "d"], ["b"]]))
        self.assert_none_above(NET, term, [list("ab"), list("abcd"), ["b"], ["b"]],
                               [list("abc"), list("abc"), ["b"], ["b"]], [list("abc"), list("abcd"), ["b"], []],
                               [list("abcd"), list("abcd"), ["b", "d"], ["b"]],
                               [list("abcde"), list("abcde"), ["b"], ["b"]],
                               [list("abcd"), list("abc"), ["b"], ["b"]], [list("abcd"), list("abcd"), ["b"], ["b"]])
        self.assert_above(NET, ("pairs", ("these", ["d", "b", "d"]), ("these", ["a", "c"])),
                          (2, [["b", "d"], ["c", "a"], ["b", "d"], []]), (2, [["b", "d"], ["a", "c"], ["b"], ["a"]]))
        self.assert_none_above(NET, ("pairs", ("these", ["d", "b", "d"]), ("these", ["a", "c"])),
                               [["b", "d"], ["c", "a"], ["b"], []], [["b"], ["c", "a"], ["b"], []],
                               [["b", "d"], ["c"], ["b"], []], [["b", "d", "d"], ["c", "a"], ["b"], ["a"]])

    def test_ties_outside_of_the_lists_do_not_count(self):
        self.assert_above(NET, ("pairs", ("these", ["f"]), ALL), (0, [["f"], list("abcdef"), [], []]))
        self.assert_above(NET, ("pairs", ("these", []), ("these", [])), (0, [[], [], [], []]), (1, [[], [], [], ["f"]]),
                          (1, [["a"], ["b"], [], ["b"]]), (1, [["a"], ["b"], ["a"], []]))
        self.assert_none_above(NET, ("pairs", ("these", []), ("these", [])), [["a"], ["b"], [], ["a"]],
                               [["a"], ["b"], ["b"], []], [["a"], ["b"], [], []], [[], [], []])
        self.assert_above(net_of(""), ("pairs", ALL, ALL), (0, [[], [], [], []]))


class TestPutTogether(BoundCase):
    V = ("size", ("from", "a"))
    W = ("number", 5)

    def test_plus(self):
        term = ("plus", self.V, self.W)
        self.assert_above(NET, term, (8, [list("abc"), []]), (9, [list("abcf"), []]))
        self.assert_below(NET, term, (8, [[["a", []], ["b", ["t"]], ["c", ["t", "u"]]], []]), (5, [[], []]),
                          (6, [[["a", []]], []]))
        self.assert_none_above(NET, term, [[["a", []]], []], [[], []], [[], list("abc")], [list("abc")],
                               [list("abc"), [], []], [1, list("abc")], [2, []], [], [list("abc"), 5],
                               (list("abc"), []), [list("abc"), None])
        self.assert_none_below(NET, term, [list("abc"), []], [[]], [[], [], []], [1, []], [2, []], [], [[], [[]]],
                               ([], []), None)

    def test_least(self):
        term = ("least", self.V, self.W)
        self.assert_above(NET, term, (3, [1, list("abc")]), (4, [1, list("abcf")]), (5, [2, []]),
                          (6, [1, list("abcdef")]))
        self.assert_none_above(NET, term, [2, list("abc")], [1, []], [1, [["a", []]]], [3, []], [0, []], [-1, []],
                               [True, list("abc")], ["1", list("abc")], [[1], list("abc")], [None, []],
                               [list("abc"), []], [list("abc"), 1], [1], [2], [2, [], []], [1, list("abc"), []], [],
                               [[2, []]], (2, []), 2, [1, 2])
        self.assert_below(NET, term, (0, [[], []]), (1, [[["a", []]], []]),
                          (3, [[["a", []], ["b", ["t"]], ["c", ["t", "u"]]], []]))
        self.assert_none_below(NET, term, [1, []], [2, []], [1, [["a", []]]], [[]], [[], [], []], [list("abc"), []],
                               [[], [1]], [])

    def test_most(self):
        term = ("most", self.V, self.W)
        self.assert_above(NET, term, (5, [list("abc"), []]), (6, [list("abcdef"), []]))
        self.assert_none_above(NET, term, [1, list("abc")], [2, []], [[], []], [list("abc")],
                               [list("abc"), [], []], [])
        self.assert_below(NET, term, (5, [2, []]), (0, [1, []]), (2, [1, [["a", []], ["b", ["t"]]]]))
        self.assert_none_below(NET, term, [1, list("abc")], [2, [[]]], [3, []], [0, []], [True, []], [False, []],
                               ["2", []], [[], []], [2], [2, [], []], [], [[2, []]], (2, []), [[], 2])

    def test_times(self):
        for number in (0, 1, 2, 40, GREAT):
            term = ("times", number, self.V)
            self.assert_above(NET, term, (3 * number, [list("abc")]), (4 * number, [list("abcf")]))
            self.assert_below(NET, term, (0, [[]]), (number, [[["a", []]]]))
            self.assert_none_above(NET, term, [], list("abc"), [list("abc"), []], [[]], [number, list("abc")],
                                   [[["a", []]]], [["a"]], (list("abc"),), [[list("abc")]], None)
            self.assert_none_below(NET, term, [], [[], []], [["a", []]], [number, []], [list("abc")], [None], [()])

    def test_values_below_nought(self):
        low, lower = ("number", -3), ("number", -GREAT)
        for above in (True, False):
            self.assert_sound(NET, ("plus", low, lower), above, [[], []], -3 - GREAT)
            self.assert_sound(NET, ("times", 4, low), above, [[]], -12)
            self.assert_sound(NET, ("times", GREAT, lower), above, [[]], -GREAT * GREAT)
            self.assert_sound(NET, ("times", 0, lower), above, [[]], 0)
        self.assert_above(NET, ("least", low, lower), (-3, [1, []]), (-GREAT, [2, []]))
        self.assert_below(NET, ("least", low, lower), (-GREAT, [[], []]))
        self.assert_above(NET, ("most", low, lower), (-3, [[], []]))
        self.assert_below(NET, ("most", low, lower), (-3, [1, []]), (-GREAT, [2, []]))

    def test_twelve_deep(self):
        term, above, below = ("flow", "a", "b"), ["a"], [["t", 2], ["a", 1]]
        value = 3
        for word in ("plus", "least", "most", "times", "plus", "most", "least", "times", "plus", "least", "most"):
            if word == "times":
                term, above, below, value = ("times", 2, term), [above], [below], 2 * value
            else:
                term = (word, ("number", 1), term)
                above = [2, above] if word == "least" else [[], above]
                below = [2, below] if word == "most" else [[], below]
                value = value + 1 if word == "plus" else 1 if word == "least" else value
            self.assert_below(NET, term, (value, below))
            shown = slow_shown(NET, term, True, above)
            self.assertGreaterEqual(shown, value)
            self.assert_above(NET, term, (shown, above))
            self.assert_none_above(NET, term, below)
            self.assert_none_below(NET, term, above)


class TestAnyPaper(BoundCase):
    def test_of_another_shape_altogether(self):
        chance = random.Random(6)
        for net in (NET, net_of("a"), net_of("ab", ("t", "a", "b", 1))):
            terms = across_terms(net) + set_terms(net, chance, 99) + [chance_term(chance, net, 4) for times in range(9)]
            odd = ODD_PARTS + ("a", "t", 3, -GREAT, [None, None], [True, []], [False, []], [(), ()], ((), ()),
                               [1, None], [[], [], [], ()], [2, True], [None], [[None]], [[True, 1]])
            for term in terms + [("number", 3)]:
                for paper in odd:
                    for above in (True, False):
                        self.assert_shown(net, term, above, paper, slow_shown(net, term, above, paper))

    def test_truths_none_and_tuples_are_no_papers(self):
        for net in (NET, net_of("a"), net_of("")):
            terms = [("number", 0), ("size", ALL), ("pairs", ALL, ALL), ("plus", ("number", 0), ("number", 0)),
                     ("least", ("number", 0), ("number", 0)), ("most", ("number", 0), ("number", 0)),
                     ("times", 0, ("number", 0)), ("size", ("these", []))]
            for term in terms + across_terms(net):
                for above in (True, False):
                    for paper in NO_PAPERS:
                        self.assert_shown(net, term, above, paper, None)

    def test_papers_with_one_part_changed(self):
        chance = random.Random(7)
        shown = {}
        for net in edge_nets() + chance_wide_nets(6, 12):
            names = net.places() + [row[0] for row in net.ties()]
            across = across_terms(net)
            terms = chance.sample(across, min(10, len(across))) + set_terms(net, chance, 5)
            for term in terms + [chance_term(chance, net, deep) for deep in (2, 3)]:
                value = slow_value(net, term)
                for above in (True, False):
                    for paper in changed_papers(bound_paper(net, term, above), names):
                        told = shown_bound(net, term, above, paper)
                        self.assertEqual(told, slow_shown(net, term, above, paper), (all_of(net), term, above, paper))
                        if told is not None:
                            self.assertIs(type(told), int)
                            self.assertTrue(told >= value if above else told <= value, (all_of(net), term, paper))
                        shown[term[0], above, told is None] = True
        self.assertEqual(len(shown), 4 * len({term for term, above, none in shown}))

    def test_papers_of_another_term_or_side(self):
        chance = random.Random(8)
        for net in edge_nets()[-6:]:
            terms = chance.sample(across_terms(net), 8) + set_terms(net, chance, 4)
            papers = [bound_paper(net, term, above) for term in terms for above in (True, False)]
            for term in terms:
                value = slow_value(net, term)
                for paper in papers:
                    for above in (True, False):
                        told = self.assert_shown(net, term, above, paper, slow_shown(net, term, above, paper))
                        self.assertTrue(told is None or (told >= value if above else told <= value))


class TestWhatIsHandedIn(BoundCase):
    def test_nothing_is_changed(self):
        chance = random.Random(9)
        for net in edge_nets() + chance_wide_nets(10, 10):
            for term in across_terms(net)[:20] + set_terms(net, chance, 9) + [chance_term(chance, net, 5)]:
                for above in (True, False):
                    paper = bound_paper(net, term, above)
                    ahead = copy.deepcopy((all_of(net), term, paper))
                    first = shown_bound(net, term, above, paper)
                    self.assertEqual(shown_bound(net, term, above, paper), first)
                    self.assertEqual((all_of(net), term, paper), ahead)

    def test_the_net_of_now_is_looked_at(self):
        net = wide_net("ab", ("t", "a", "b", 2))
        self.assert_below(net, ("flow", "a", "b"), (2, [["t", 2]]))
        net.alter("t", 1, 0)
        self.assert_none_below(net, ("flow", "a", "b"), [["t", 2]])
        self.assert_above(net, ("flow", "a", "b"), (1, ["a"]))
        net.cut("t")
        self.assert_none_below(net, ("flow", "a", "b"), [["t", 1]])
        self.assert_above(net, ("flow", "a", "b"), (0, ["a"]))

    def test_arguments(self):
        self.assertEqual(list(inspect.signature(shown_bound).parameters), ["net", "term", "above", "paper"])


if __name__ == "__main__":
    unittest.main()
