"""The looker at papers for and against plain claims."""

import copy
import inspect
import unittest

from netcourt.plain import look_plain
from netcourt.plain_found import find_plain
from samples import (GREAT, ODD_PARTS, all_of, chance_nets, changed_papers, named_nets, net_of, plain_claims,
                     slow_look, slow_truth)

# a leads to b and c, b to d, and d back to b; e stands apart. The ring b, d costs 1, so none is below nought.
NET = net_of("abcde", ("t", "a", "b", 3), ("u", "a", "c", -5), ("v", "b", "d", 4), ("w", "d", "b", -3),
             ("x", "c", "d", 2), ("a", "a", "b", 7))
# No walk leads back here.
LINE = net_of("abcd", ("t", "a", "b", 1), ("u", "b", "c", -9), ("v", "a", "c", 2), ("w", "c", "d", 0))
# The ring b, c costs -2; d can be come to from it, a leads there, e is come to from a alone.
SINK = net_of("abcde", ("t", "a", "b", 10), ("u", "b", "c", 1), ("v", "c", "b", -3), ("w", "c", "d", 5),
              ("x", "a", "e", 4))


class LookCase(unittest.TestCase):
    def assert_looked(self, net, claim, so, papers, answer):
        for paper in papers:
            ahead = (all_of(net), copy.deepcopy(claim), copy.deepcopy(paper))
            self.assertIs(look_plain(net, claim, so, paper), answer, (claim, so, paper))
            self.assertEqual((all_of(net), claim, paper), ahead)
            if answer:
                self.assertIs(slow_truth(net, claim), so, (claim, paper))

    def assert_let_by(self, net, claim, so, *papers):
        self.assert_looked(net, claim, so, papers, True)
        self.assert_looked(net, claim, not so, papers, False)

    def assert_not(self, net, claim, so, *papers):
        self.assert_looked(net, claim, so, papers, False)


class TestWay(LookCase):
    def test_for(self):
        self.assert_let_by(NET, ("way", "a", "b"), True, ["t"], ["a"], ["t", "v", "w"], ["u", "x", "w"])
        self.assert_let_by(NET, ("way", "a", "d"), True, ["t", "v"], ["u", "x"], ["a", "v", "w", "v"])
        self.assert_let_by(NET, ("way", "b", "b"), True, [], ["v", "w"], ["v", "w", "v", "w"])
        self.assert_let_by(NET, ("way", "e", "e"), True, [])

    def test_for_with_one_thing_wrong(self):
        self.assert_not(NET, ("way", "a", "b"), True, [], ["u"], ["v"], ["w"], ["t", "v"], ["t", "t"], ["w", "t"],
                        ["b"], ["zz"], ["t", "zz"], [1], [True], [["t"]], ["t", None], ("t",), "t")
        self.assert_not(NET, ("way", "e", "a"), True, [], ["t"])
        self.assert_not(NET, ("way", "b", "a"), True, ["t"], [], ["a"])

    def test_against(self):
        self.assert_let_by(NET, ("way", "b", "a"), False, ["b", "d"], ["d", "b"], ["b", "d", "e"], ["b", "c", "d"],
                           ["e", "d", "c", "b"])
        self.assert_let_by(NET, ("way", "a", "e"), False, ["a", "b", "c", "d"])
        self.assert_let_by(NET, ("way", "e", "a"), False, ["e"], ["e", "b", "d"])

    def test_against_with_one_thing_wrong(self):
        self.assert_not(NET, ("way", "b", "a"), False, [], ["b"], ["d"], ["b", "e"], ["b", "d", "a"],
                        ["b", "d", "a", "c"], ["b", "d", "d"], ["b", "b", "d"], ["b", "d", "zz"], ["b", "d", "t"],
                        ["b", "d", 1], ["b", "d", None], ["b", "d", True], ["b", "d", ["e"]], ("b", "d"), "bd",
                        [["b", "d"]], ["c", "d"], ["d", "e"])
        self.assert_not(NET, ("way", "a", "a"), False, ["a", "b", "c", "d"], [], ["b", "d"], NET.places())
        self.assert_not(NET, ("way", "a", "d"), False, ["a"], ["a", "b", "c"], ["a", "b", "c", "d"])


class TestCostFor(LookCase):
    def test_walks(self):
        claim = ("cost", "a", "d", -3)
        self.assert_let_by(NET, claim, True, [[["u", "x"], 1]], [[["u"], 1], [["x"], 1]], [[[], 1], [["u", "x"], 1]],
                           [[["u", "x"], 1], [[], 1]], [[["u", "x"], 1], [[], 9]], [[[], GREAT], [["u", "x"], 1]])
        self.assert_let_by(NET, ("cost", "a", "d", -2), True, [[["u", "x"], 1], [["w", "v"], 1]],
                           [[["u", "x", "w", "v"], 1]])
        self.assert_let_by(NET, ("cost", "b", "b", 7), True, [[["v", "w"], 7]], [[["v", "w"], 3], [["v", "w"], 4]],
                           [[["v", "w", "v", "w"], 3]], [[["v"], 1], [["w", "v"], 6], [["w"], 1]])

    def test_the_empty_walk(self):
        for k in (0, 1, GREAT):
            self.assert_let_by(NET, ("cost", "e", "e", k), True, [], [[[], 1]], [[[], 5], [[], 1]])
        self.assert_not(NET, ("cost", "e", "e", -1), True, [], [[[], 1]], [[[], 5]])
        self.assert_not(NET, ("cost", "a", "b", GREAT), True, [], [[[], 1]])

    def test_just_at_k(self):
        for k, answer in ((-4, False), (-3, True), (-2, True)):
            self.assert_looked(NET, ("cost", "a", "d", k), True, [[[["u", "x"], 1]]], answer)
        for k, answer in ((5, False), (6, True)):
            self.assert_looked(NET, ("cost", "b", "b", k), True, [[[["v", "w"], 6]]], answer)
        for times in (1, 5, 6, GREAT, 10 ** 120 - 1):
            paper = [[["t"], 1], [["u", "v"], times], [["u", "w"], 1]]
            for more, answer in ((-1, False), (0, True), (1, True)):
                self.assert_looked(SINK, ("cost", "a", "d", 16 - 2 * times + more), True, [paper], answer)

    def test_numbers_of_a_hundred_and_twenty_figures(self):
        times = 10 ** 120 - 1
        self.assert_let_by(SINK, ("cost", "a", "d", -GREAT), True, [[["t", "u"], 1], [["v", "u"], times], [["w"], 1]])

    def test_stretches_with_one_thing_wrong(self):
        claim = ("cost", "a", "d", GREAT)
        self.assert_let_by(NET, claim, True, [[["t"], 1], [["v", "w"], 2], [["v"], 1]])
        for times in (0, -1, True, False, None, "1", "", [1], (1,), []):
            self.assert_not(NET, claim, True, [[["t"], times], [["v"], 1]], [[["t"], 1], [["v"], 1], [[], times]],
                            [[["t"], 1], [["v", "w"], times], [["v"], 1]])
        self.assert_not(NET, claim, True, [[["t"], 2], [["v"], 1]], [[["t", "v"], 2]], [[["t"], 1], [["v"], 2]],
                        [[["t"], 1], [["v", "w", "v"], 2]], [[["v"], 1], [["t"], 1]], [[["t"], 1], [["x"], 1]],
                        [[["t"], 1]], [[["t"], 1], [["v", "w"], 1]], [["t", 1], ["v", 1]], ["t", "v"], [["t", "v"]],
                        [[["t", "v"]]], [[["t", "v"], 1, 1]], [[["t", "v"], 1], []], [[], [["t", "v"], 1]],
                        [["t", "v"], 1], [[1, ["t", "v"]]], [(["t", "v"], 1)], ([["t", "v"], 1],), [[("t", "v"), 1]],
                        [[["t", "zz"], 1]], [[["t", None], 1]], [[["t", True], 1]], [[["t", 0], 1]],
                        [[["t", ["v"]], 1]], [[["t", "v"], 1], None], [[["t", "v"], 1], 1], [[["t", "v"], 1], "a"],
                        [[None, 1]], [["", 1]])


class TestCostAgainst(LookCase):
    def test_prices(self):
        prices = [["a", 0], ["b", -6], ["c", -5], ["d", -3]]
        for k in (-4, -5, -GREAT):
            self.assert_let_by(NET, ("cost", "a", "d", k), False, [prices, []], [prices[::-1], []], [prices, ["e"]],
                               [prices + [["e", GREAT]], []], [prices + [["e", -GREAT]], []],
                               [[[place, number + GREAT] for place, number in prices], []])
        for k in (-3, -2, 0, GREAT):
            self.assert_not(NET, ("cost", "a", "d", k), False, [prices, []])

    def test_a_price_one_too_great_or_too_small(self):
        prices = {"a": 0, "b": -6, "c": -5, "d": -3}
        claim = ("cost", "a", "d", -4)
        # Of all these b alone has a number to spare, and that downward.
        for place, number, answer in (("b", -5, False), ("c", -4, False), ("d", -2, False), ("b", -7, True),
                                      ("c", -6, False), ("d", -4, False), ("a", 1, False), ("a", -1, False)):
            rows = [[name, number if name == place else prices[name]] for name in prices]
            self.assert_looked(NET, claim, False, [[rows, []]], answer)

    def test_no_walk_at_all(self):
        for k in (-GREAT, 0, GREAT):
            self.assert_let_by(NET, ("cost", "b", "a", k), False, [[], ["b", "d"]], [[["b", 0], ["d", 3]], []],
                               [[["b", 5], ["d", 9]], ["e"]], [[], ["d", "b", "e"]], [[["e", 0]], ["b", "d"]],
                               [[["c", 0]], ["b", "d"]], [[["a", k]], ["b", "c", "d"]])
            self.assert_not(NET, ("cost", "b", "a", k), False, [[["b", 0], ["d", 2]], []], [[["b", 0], ["d", 5]], []])
            self.assert_let_by(NET, ("cost", "a", "e", k), False, [[], ["a", "b", "c", "d"]],
                               [[["a", 0]], ["b", "c", "d"]], [[["a", 0], ["c", -5]], ["b", "d"]],
                               [[["a", 0], ["c", -5], ["e", k + 1]], ["b", "d"]],
                               [[["e", -GREAT]], ["a", "b", "c", "d"]])
            self.assert_not(NET, ("cost", "a", "e", k), False, [[["a", 0], ["c", -5], ["e", k]], ["b", "d"]])

    def test_a_ring_below_nought_that_leads_no_further(self):
        for k in (-GREAT, 3):
            self.assert_let_by(SINK, ("cost", "a", "e", k), False, [[["a", 0], ["e", 4]], ["b", "c", "d"]],
                               [[["a", 9], ["e", 13]], ["d", "c", "b"]])
            self.assert_not(SINK, ("cost", "a", "e", k), False, [[["a", 0], ["e", 4], ["d", 0]], ["b", "c"]])
        self.assert_not(SINK, ("cost", "a", "e", 4), False, [[["a", 0], ["e", 4]], ["b", "c", "d"]])
        self.assert_not(SINK, ("cost", "a", "d", -GREAT), False, [[["a", 0], ["e", 4]], ["b", "c", "d"]],
                        [[["a", 0], ["e", 4], ["d", 0]], ["b", "c"]], [[["a", 0], ["d", 0]], ["b", "c", "e"]])

    def test_dead_places(self):
        claim = ("cost", "b", "a", 0)
        self.assert_not(NET, claim, False, [[["d", 0]], ["b"]], [[["b", 0]], ["d"]], [[], ["b"]], [[], ["d"]], [[], []],
                        [[], ["b", "d", "a"]], [[], ["b", "d", "d"]], [[], ["b", "d", "zz"]], [[], ["b", "d", 1]],
                        [[], ["b", "d", None]], [[], ["b", "d", True]], [[], ["b", "d", ["e"]]], [[], ("b", "d")],
                        [[["b", 0]], ["b", "d"]], [[["d", 0]], ["b", "d"]], [[["b", 0], ["d", 0]], ["b"]])
        # From the dead c a tie leads to the priced d.
        self.assert_not(NET, ("cost", "a", "e", 0), False, [[["a", 0], ["d", 0], ["b", 0]], ["c"]],
                        [[["d", 0], ["b", 0]], ["a", "c"]], [[["a", 0], ["d", -3], ["b", -6]], ["c", "e"]])

    def test_a_and_b_among_them(self):
        prices = [["a", 0], ["b", -6], ["c", -5], ["d", -3]]
        self.assert_not(NET, ("cost", "e", "d", -9), False, [prices, []], [[], []], [prices, ["d"]])
        self.assert_let_by(NET, ("cost", "e", "d", -9), False, [prices, ["e"]], [prices + [["e", -3]], []], [[], ["e"]])
        self.assert_not(NET, ("cost", "e", "d", -9), False, [prices + [["e", 6]], []], [prices[:3], ["d", "e"]])
        self.assert_let_by(NET, ("cost", "a", "a", -1), False, [prices, []])
        self.assert_not(NET, ("cost", "a", "a", 0), False, [prices, []], [[], ["a", "b", "c", "d"]], [[], []])
        self.assert_not(NET, ("cost", "a", "a", -1), False, [[], ["a", "b", "c", "d"]], [prices[1:], []])

    def test_of_another_shape(self):
        prices = [["a", 0], ["b", -6], ["c", -5], ["d", -3]]
        claim = ("cost", "a", "d", -4)
        self.assert_not(NET, claim, False, [prices], [prices, [], []], [prices, None], [prices, ()], [prices, 0],
                        [prices, ""], (prices, []), [tuple(prices), []], [[], prices], prices, [], [[], []], [None, []],
                        [prices + [["a", 0]], []], [prices + [["zz", 0]], []], [prices + ["e"], []],
                        [prices + [[]], []], [prices + [["e"]], []], [prices + [["e", 0, 0]], []],
                        [prices + [("e", 0)], []], [prices + [[["e"], 0]], []], [prices + [[0, "e"]], []],
                        [prices + [None], []], [dict(prices), []])
        for number in (True, False, None, "0", "", [0], (), []):
            self.assert_not(NET, claim, False, [prices + [["e", number]], []], [[["a", number]] + prices[1:], []])


class TestRing(LookCase):
    def test_for(self):
        self.assert_let_by(SINK, ("ring",), True, ["u", "v"], ["v", "u"], ["u", "v", "u", "v"], ["v", "u"] * 9)

    def test_for_with_one_thing_wrong(self):
        self.assert_not(SINK, ("ring",), True, [], ["u"], ["v"], ["u", "u"], ["u", "v", "u"], ["t", "u", "v"],
                        ["u", "w"], ["b"], ["zz"], ["u", "v", "zz"], ["u", "v", 1], ["u", "v", None], [1], [True],
                        [["u", "v"]], ("u", "v"), "uv")
        self.assert_not(NET, ("ring",), True, ["v", "w"], ["w", "v"], ["v", "w", "v", "w"], ["t"], ["u"], ["u", "x"])

    def test_just_below_nought(self):
        for cost, answer in ((-2, False), (-3, False), (-4, True)):
            net = net_of("ab", ("t", "a", "b", 3), ("u", "b", "a", cost))
            self.assert_looked(net, ("ring",), True, [["t", "u"], ["u", "t"]], answer)

    def test_against(self):
        prices = [["a", 0], ["b", -6], ["c", -5], ["d", -3], ["e", 0]]
        self.assert_let_by(NET, ("ring",), False, prices, prices[::-1], prices[:4] + [["e", -GREAT]],
                           [[place, number - GREAT] for place, number in prices])
        self.assert_let_by(net_of(""), ("ring",), False, [])
        self.assert_let_by(net_of("a"), ("ring",), False, [["a", 0]], [["a", -GREAT]], [["a", 10 ** 120 - 1]])

    def test_against_with_one_thing_wrong(self):
        prices = [["a", 0], ["b", -6], ["c", -5], ["d", -3], ["e", 0]]
        for at in range(5):
            self.assert_not(NET, ("ring",), False, prices[:at] + prices[at + 1:], prices + [prices[at]],
                            prices[:at] + [prices[at - 1]] + prices[at + 1:])
            for row in ([prices[at][0]], [prices[at][0], True], [prices[at][0], False], [prices[at][0], None],
                        [prices[at][0], "0"], ["zz", 0], [0, prices[at][0]], tuple(prices[at]), prices[at] + [0], None,
                        [], 0, [[prices[at][0]], 0], prices[at][0]):
                self.assert_not(NET, ("ring",), False, prices[:at] + [row] + prices[at + 1:])
        for place, number in (("b", -5), ("c", -4), ("d", -2), ("a", -1), ("c", -6)):
            self.assert_not(NET, ("ring",), False, [[name, number if name == place else told] for name, told in prices])
        self.assert_not(NET, ("ring",), False, tuple(prices), [prices], [], dict(prices), [prices, []])
        self.assert_not(SINK, ("ring",), False, [[place, 0] for place in SINK.places()], prices)
        self.assert_not(net_of(""), ("ring",), False, (), "", 0, None, False, [[]], [["a", 0]])


class TestRound(LookCase):
    def test_for(self):
        self.assert_let_by(NET, ("round",), True, ["v", "w"], ["w", "v"], ["v", "w"] * 5)

    def test_for_with_one_thing_wrong(self):
        self.assert_not(NET, ("round",), True, [], ["v"], ["v", "v"], ["v", "w", "v"], ["t", "v", "w"], ["t"], ["b"],
                        ["zz"], ["zz", "zz"], [1], [True], ["v", "w", None], ["v", "w", 1], [["v", "w"]],
                        [["v"], ["w"]], ("v", "w"), "vw")
        for net in (net_of(""), net_of("a"), LINE):
            self.assert_not(net, ("round",), True, [], ["a"], ["t"], ["t", "u"], (), "", 0, None, False)

    def test_against(self):
        self.assert_let_by(LINE, ("round",), False, ["a", "b", "c", "d"])
        apart = net_of("abc", ("t", "c", "b", 1))
        self.assert_let_by(apart, ("round",), False, ["c", "b", "a"], ["c", "a", "b"], ["a", "c", "b"])
        self.assert_not(apart, ("round",), False, ["a", "b", "c"], ["b", "c", "a"], ["b", "a", "c"])
        self.assert_let_by(net_of(""), ("round",), False, [])
        self.assert_let_by(net_of("a"), ("round",), False, ["a"])

    def test_against_with_one_thing_wrong(self):
        self.assert_not(LINE, ("round",), False, ["b", "a", "c", "d"], ["a", "c", "b", "d"], ["a", "b", "d", "c"],
                        ["d", "c", "b", "a"], ["a", "b", "c"], ["b", "c", "d"], [], ["a", "b", "c", "d", "d"],
                        ["a", "a", "b", "c", "d"], ["a", "b", "c", "d", "zz"], ["a", "b", "c", "zz"],
                        ["a", "b", "c", "t"], ["a", "b", "c", "d", 1], ["a", "b", "c", "d", None],
                        ["a", "b", "c", "d", True], ["a", "b", "c", "d", []], ["a", "b", "c", ["d"]],
                        ("a", "b", "c", "d"), "abcd")
        self.assert_not(NET, ("round",), False, NET.places(), ["a", "c", "b", "d", "e"], ["a", "c", "d", "b", "e"])
        self.assert_not(net_of(""), ("round",), False, (), "", 0, None, False, [[]], ["a"])


class TestMust(LookCase):
    def test_for(self):
        self.assert_let_by(LINE, ("must", "a", "d", "c"), True, ["a", "b"], ["b", "a"])
        self.assert_let_by(LINE, ("must", "b", "d", "c"), True, ["b"], ["b", "a"])
        self.assert_let_by(LINE, ("must", "d", "a", "b"), True, ["d"], ["d", "c"])
        self.assert_let_by(NET, ("must", "a", "e", "b"), True, ["a", "c", "d"])

    def test_for_with_one_thing_wrong(self):
        self.assert_not(LINE, ("must", "a", "d", "c"), True, [], ["a"], ["b"], ["a", "b", "c"], ["a", "b", "c", "d"],
                        ["a", "b", "d"], ["a", "b", "b"], ["a", "a", "b"], ["a", "b", "zz"], ["a", "b", "t"],
                        ["a", "b", 1], ["a", "b", None], ["a", "b", True], ["a", "b", []], ["a", ["b"]], ("a", "b"),
                        "ab")
        self.assert_not(LINE, ("must", "a", "d", "b"), True, ["a"], ["a", "c"], ["a", "c", "d"], [], ["a", "b"])

    def test_a_is_x(self):
        for b in "abcd":
            self.assert_let_by(LINE, ("must", "a", b, "a"), True, [])
            self.assert_not(LINE, ("must", "a", b, "a"), False, [], ["t"], ["v"], ["v", "w"], ["t", "u", "w"])
        self.assert_let_by(LINE, ("must", "b", "d", "b"), True, [])
        self.assert_let_by(LINE, ("must", "c", "b", "c"), True, ["d"], [])
        self.assert_not(LINE, ("must", "a", "d", "a"), True, ["a"], ["b"], ["d"], ["b", "c", "d"])
        self.assert_not(LINE, ("must", "a", "d", "a"), True, (), "", None, False, 0)

    def test_b_is_x(self):
        self.assert_let_by(LINE, ("must", "a", "d", "d"), True, ["a", "b", "c"])
        self.assert_let_by(LINE, ("must", "a", "b", "b"), True, ["a", "c", "d"])
        self.assert_not(LINE, ("must", "a", "d", "d"), True, ["a", "b", "c", "d"], ["a", "b"], [])
        self.assert_not(LINE, ("must", "a", "d", "d"), False, ["v", "w"], ["t", "u", "w"], [])

    def test_a_is_b(self):
        self.assert_let_by(LINE, ("must", "a", "a", "b"), False, [])
        self.assert_not(LINE, ("must", "a", "a", "b"), True, [], ["a"], ["a", "c", "d"], ["c", "d"])
        self.assert_let_by(NET, ("must", "b", "b", "c"), False, [], ["v", "w"])
        self.assert_not(NET, ("must", "b", "b", "d"), False, ["v", "w"])
        self.assert_let_by(NET, ("must", "b", "b", "d"), False, [])
        self.assert_let_by(LINE, ("must", "c", "c", "c"), True, [], ["d"])

    def test_against(self):
        self.assert_let_by(LINE, ("must", "a", "d", "b"), False, ["v", "w"])
        self.assert_let_by(NET, ("must", "a", "d", "c"), False, ["t", "v"], ["a", "v"], ["t", "v", "w", "v"])
        self.assert_let_by(NET, ("must", "a", "d", "e"), False, ["u", "x"], ["t", "v"])

    def test_against_with_one_thing_wrong(self):
        self.assert_not(LINE, ("must", "a", "d", "b"), False, ["t", "u", "w"], ["v"], ["w"], [], ["v", "w", "w"],
                        ["v", "zz"], ["v", "w", None], ["v", True], ["v", 1], [["v", "w"]], ("v", "w"), "vw",
                        ["v", ["w"]])
        self.assert_not(NET, ("must", "a", "d", "b"), False, ["u", "x", "w", "v"], ["t", "v"], ["a", "v"])
        self.assert_let_by(NET, ("must", "a", "d", "b"), False, ["u", "x"])


class TestAllClaims(LookCase):
    def test_of_another_shape_altogether(self):
        deep = "t"
        for number in range(400):
            deep = [deep]
        shapes = [deep, ["a"] * 301, [10 ** 121] * 301, [[["t"], 10 ** 125]]]
        for thing in ODD_PARTS:
            shapes += [thing, [thing], [thing, thing], [[thing, thing]], [[[thing], 1]], [[["a", thing]], [thing]]]
        for net in (NET, LINE, SINK, net_of(""), net_of("ab")):
            for claim in plain_claims(net):
                for paper in shapes:
                    for so in (True, False):
                        answer = look_plain(net, claim, so, paper)
                        self.assertIs(type(answer), bool)
                        self.assertEqual(answer, slow_look(net, claim, so, paper), (claim, so, paper))

    def test_changed_papers(self):
        seen = {}
        for net in named_nets() + chance_nets(11, 12) + [NET, LINE, SINK]:
            ahead = all_of(net)
            names = net.places() + [row[0] for row in net.ties()] + ["zz"]
            for claim in plain_claims(net):
                truth = slow_truth(net, claim)
                for paper in changed_papers(find_plain(net, claim)[1], names[:9]):
                    answers = [look_plain(net, claim, so, paper) for so in (True, False)]
                    self.assertEqual(answers, [slow_look(net, claim, so, paper) for so in (True, False)],
                                     (claim, paper))
                    self.assertEqual([type(answer) for answer in answers], [bool, bool])
                    self.assertIs(answers[truth], False, (claim, paper))
                    seen[claim[0], truth, answers[not truth]] = True
            self.assertEqual(all_of(net), ahead)
        self.assertEqual(len(seen), 20)

    def test_the_net_of_now(self):
        net = net_of("abc", ("t", "a", "b", 1), ("u", "b", "c", 2))
        self.assert_looked(net, ("cost", "a", "c", 3), True, [[[["t", "u"], 1]]], True)
        net.alter("u", 1, 3)
        self.assert_looked(net, ("cost", "a", "c", 3), True, [[[["t", "u"], 1]]], False)
        self.assert_looked(net, ("way", "a", "c"), True, [["t", "u"]], True)
        net.cut("t")
        self.assert_looked(net, ("way", "a", "c"), True, [["t", "u"]], False)
        self.assert_looked(net, ("way", "a", "c"), False, [["a"]], True)

    def test_nothing_is_kept(self):
        paper = ["t", "v"]
        self.assertIs(look_plain(NET, ("way", "a", "d"), True, paper), True)
        paper.append("w")
        self.assertIs(look_plain(NET, ("way", "a", "d"), True, paper), False)
        paper.pop()
        self.assertIs(look_plain(NET, ("way", "a", "d"), True, paper), True)

    def test_arguments(self):
        self.assertEqual(list(inspect.signature(look_plain).parameters), ["net", "claim", "so", "paper"])


if __name__ == "__main__":
    unittest.main()
