"""Papers' texts, reading them, and walks."""

import copy
import inspect
import unittest

from netcourt.errors import CourtError, NoText
from netcourt.papers import read_paper, show_paper, walk_cost, walk_end
from netcourt.plain_found import find_plain
from samples import GREAT, NO_PAPERS, all_of, full_nets, named_nets, net_of, plain_claims

LONG = "9" * 120


def deep(many, innermost):
    for number in range(many):
        innermost = [innermost]
    return innermost


TEXTS = {
    "a": "a", "z" * 12: "z" * 12, "abcdefghijkl": "abcdefghijkl",
    "0": 0, "1": 1, "-1": -1, "10": 10, "-10": -10, "100": 100, LONG: int(LONG), "-" + LONG: -int(LONG),
    "1" + "0" * 119: 10 ** 119, "[]": [], "[a]": ["a"], "[0]": [0], "[-7]": [-7], "[[]]": [[]], "[[] []]": [[], []],
    "[[] [[]] []]": [[], [[]], []], "[a b]": ["a", "b"], "[a 1 -2 [] b]": ["a", 1, -2, [], "b"],
    "[[[t u] 1] [[v] 20]]": [[["t", "u"], 1], [["v"], 20]], "[a [b [c [d]] e]]": ["a", ["b", ["c", ["d"]], "e"]],
    "[" * 60 + "]" * 60: deep(59, []), "[" * 60 + "a" + "]" * 60: deep(60, "a"),
    "[" * 59 + "[] a []" + "]" * 59: deep(58, [[], "a", []]),
}
NO_TEXTS = [
    "", " ", "  ", "[", "]", "][", "[[", "]]", "[]]", "[[]", "[a", "a]", "[a]]", "[[a]", "[a b", "a b]", "[a [b]",
    "[a] b]", " a", "a ", " 1", "1 ", " []", "[] ", "[ ]", "[ a]", "[a ]", "[a  b]", "[ a b ]", "[[]  []]", "[][]",
    "[[][]]", "[a[]]", "[[]a]", "[1[]]", "[[]1]", "[a,b]", "[a, b]", "[a;b]", "(a)", "()", "{}", "[a\tb]", "[a\nb]",
    "a\n", "\na", "[]\n", "a b", "1 2", "a 1", "a []", "[] a", "[] []", "[a] [b]", "[a][b]", "1 []",
    "01", "00", "-01", "007", "+1", "+0", "-0", "-", "--1", "1-", "1.0", "1_0", "1e2", "0x1", "- 1", "1,000",
    "[01]", "[+1]", "[-0]", "[-]", "[--1]", "[1 02]", "9" + LONG, "-9" + LONG, "0" + LONG, "[" + "9" + LONG + "]",
    "9" * 3000, "z" * 13, "A", "aB", "Ab", "a1", "1a", "a-b", "a_b", "-a", "a.", "'a'", "\u00e4", "\u0661", "\u00b2",
    "\uff41", "None", "True", "[" + "z" * 13 + "]", "[A]", "[a B]", "[a1]", "[1a]", "[-a]", "[\u00e4]", "[None]",
    "[True]", "[" * 61 + "]" * 61, "[" * 61 + "a" + "]" * 61, "[" * 60 + "[] []" + "]" * 60, "[" * 4000, "]" * 4000,
    "[" * 2000 + "]" * 2000, "[]" * 2000, "[" * 60 + "]" * 61, "[" * 60 + "]" * 59,
]


class PaperCase(unittest.TestCase):
    def assert_no_text(self, deed, given):
        with self.assertRaises(ValueError, msg=repr(given)) as taken:
            deed(given)
        self.assertIs(type(taken.exception), NoText, given)
        self.assertIsInstance(taken.exception, CourtError)

    def assert_same(self, one, other):
        self.assertEqual(one, other)
        self.assertIs(type(one), type(other))
        if type(one) is list:
            for part, other_part in zip(one, other):
                self.assert_same(part, other_part)


class TestShow(PaperCase):
    def test_texts(self):
        for text, paper in TEXTS.items():
            shown = show_paper(paper)
            self.assertIs(type(shown), str)
            self.assertEqual(shown, text)

    def test_other_texts_have_no_text(self):
        for word in ("", " ", "z" * 13, "A", "aB", "a1", "1", "-1", "a b", " a", "a ", "a-b", "[", "]", "[]", "[a]",
                     "a]", "a\n", "\u00e4", "\u0661", "_", "a_b"):
            for paper in (word, [word], ["a", word], [word, 1], [[], [word]], [1, ["a", ["b", word], 2]],
                          deep(60, word)):
                self.assert_no_text(show_paper, paper)

    def test_what_is_no_paper_has_no_text(self):
        for thing in NO_PAPERS:
            for paper in (thing, [thing], ["a", [1, thing]]):
                self.assert_no_text(show_paper, paper)

    def test_somewhat_beyond_the_bounds_nothing_is_refused(self):
        self.assertEqual(show_paper(10 ** 120), "1" + "0" * 120)
        self.assertEqual(show_paper([-(10 ** 121)]), "[-1" + "0" * 121 + "]")
        self.assertEqual(show_paper(deep(61, "a")), "[" * 61 + "a" + "]" * 61)
        self.assertEqual(show_paper(["a"] * 301), "[" + " ".join(["a"] * 301) + "]")

    def test_showing_changes_nothing(self):
        for paper in TEXTS.values():
            ahead = copy.deepcopy(paper)
            self.assertEqual(show_paper(paper), show_paper(paper))
            self.assert_same(paper, ahead)


class TestRead(PaperCase):
    def test_texts(self):
        for text, paper in TEXTS.items():
            self.assert_same(read_paper(text), paper)

    def test_there_and_back(self):
        for paper in TEXTS.values():
            self.assert_same(read_paper(show_paper(paper)), paper)

    def test_texts_that_no_paper_has(self):
        for text in NO_TEXTS:
            self.assert_no_text(read_paper, text)

    def test_each_is_read_with_lists_of_its_own(self):
        text = "[[] [a 1] [] [[]]]"
        one, other = read_paper(text), read_paper(text)
        one[0].append("x")
        one[1].clear()
        one[3][0].append(7)
        one.append(one[2])
        self.assertEqual(one, [["x"], [], [], [[7]], []])
        self.assertEqual(other, [[], ["a", 1], [], [[]]])
        self.assertEqual(read_paper(text), other)

    def test_a_read_paper_shares_nothing_with_a_shown_one(self):
        paper = ["a", ["b", []]]
        again = read_paper(show_paper(paper))
        again[1][1].append("c")
        self.assertEqual(paper, ["a", ["b", []]])

    def test_a_long_text(self):
        paper = [["abcdefghijkl", 10 ** 119], []] * 300
        self.assertGreater(len(show_paper(paper)), 4000)
        self.assertEqual(read_paper(show_paper(paper)), paper)

    def test_what_the_finder_told(self):
        for net in named_nets():
            for claim in plain_claims(net):
                paper = find_plain(net, claim)[1]
                self.assert_same(read_paper(show_paper(paper)), paper)

    def test_texts_near_one(self):
        sample = "[ab [-10 [] z] [[0]] c]"
        taken = 0
        for at in range(len(sample) + 1):
            for sign in ["", " ", "[", "]", "-", "+", "0", "5", "a", "A", "\n", "[]", " []"]:
                for text in (sample[:at] + sign + sample[at:], sample[:at] + sign + sample[at + 1:],
                             sample[:at] + sign):
                    try:
                        paper = read_paper(text)
                    except NoText:
                        continue
                    self.assertEqual(show_paper(paper), text)
                    taken += 1
        self.assertGreater(taken, 40)


WALK_NET = net_of("abcd", ("t", "a", "b", 1), ("u", "b", "c", -20), ("v", "b", "a", 300), ("c", "a", "c", GREAT),
                  ("d", "c", "a", -GREAT))


class TestWalks(PaperCase):
    def test_the_empty_list_is_a_walk_from_each_place_to_itself(self):
        for net in named_nets() + [WALK_NET]:
            for place in net.places():
                self.assertEqual(walk_end(net, place, []), place)
        self.assertEqual(walk_cost(WALK_NET, []), 0)
        self.assertIs(type(walk_cost(WALK_NET, [])), int)

    def test_walks(self):
        for a, walk, end, cost in (
                ("a", ["t"], "b", 1), ("b", ["u"], "c", -20), ("a", ["t", "u"], "c", -19), ("a", ["t", "v"], "a", 301),
                ("a", ["t", "v"] * 4 + ["t"], "b", 1205), ("a", ["c"], "c", GREAT), ("a", ["c", "d"], "a", 0),
                ("c", ["d", "c"] * 150, "c", 0), ("a", ["c", "d", "t"], "b", 1), ("c", ["d", "t", "u"], "c",
                                                                                  -19 - GREAT),
                ("a", ["t", "u", "d"] * 30, "a", 30 * (-19 - GREAT))):
            self.assertEqual(walk_end(WALK_NET, a, walk), end)
            self.assertEqual(walk_cost(WALK_NET, walk), cost)

    def test_what_is_no_walk_from_a(self):
        for paper in (["u"], ["v"], ["t", "t"], ["t", "c"], ["d"], ["t", "u", "v"], ["a"], ["b"], ["zz"], [""], ["T"],
                      ["t "], ["t", "zz"], ["t", "b"], [1], [0], ["t", 1], [[]], [["t"]], ["t", []], ["t", ["u"]],
                      [None], ["t", None], [True], ["t", True], [False], ["t", ()], [("t",)], ["t", ("u",)], ("t",),
                      ("t", "u"), "t", "tu", "", 0, 1, -1, (), None, False, True, {}, {"t": True}, [{}]):
            self.assertIsNone(walk_end(WALK_NET, "a", paper), paper)

    def test_a_walk_begins_at_a(self):
        for a, end in (("a", "b"), ("b", None), ("c", None), ("d", None)):
            self.assertEqual(walk_end(WALK_NET, a, ["t"]), end)

    def test_from_what_is_no_place_there_is_no_walk(self):
        for name in ("zz", "t", "", "A"):
            self.assertIsNone(walk_end(WALK_NET, name, []))
            self.assertIsNone(walk_end(WALK_NET, name, ["t"]))

    def test_a_tie_called_as_a_place_is(self):
        self.assertEqual(walk_end(WALK_NET, "c", ["d"]), "a")
        self.assertIsNone(walk_end(WALK_NET, "d", ["d"]))

    def test_great_sums(self):
        for net in full_nets():
            costs = {row[0]: row[4] for row in net.ties()}
            for place in net.places():
                so, walk = find_plain(net, ("way", net.places()[0], place))
                if so:
                    self.assertEqual(walk_cost(net, walk), sum(costs[name] for name in walk))

    def test_the_net_of_now(self):
        net = net_of("abc", ("t", "a", "b", 1), ("u", "b", "c", 2))
        self.assertEqual((walk_end(net, "a", ["t", "u"]), walk_cost(net, ["t", "u"])), ("c", 3))
        net.alter("u", 1, -9)
        self.assertEqual((walk_end(net, "a", ["t", "u"]), walk_cost(net, ["t", "u"])), ("c", -8))
        net.cut("u")
        self.assertIsNone(walk_end(net, "a", ["t", "u"]))
        net.tie("u", "b", "a", 1, 1)
        self.assertEqual(walk_end(net, "a", ["t", "u"]), "a")

    def test_nothing_is_changed(self):
        ahead = all_of(WALK_NET)
        walk = ["t", "v", "t"]
        walk_end(WALK_NET, "a", walk)
        walk_cost(WALK_NET, walk)
        self.assertEqual(walk, ["t", "v", "t"])
        self.assertEqual(all_of(WALK_NET), ahead)


class TestInterface(unittest.TestCase):
    def test_arguments(self):
        for deed, arguments in ((show_paper, ["paper"]), (read_paper, ["text"]), (walk_end, ["net", "a", "paper"]),
                                (walk_cost, ["net", "walk"])):
            self.assertEqual(list(inspect.signature(deed).parameters), arguments)


if __name__ == "__main__":
    unittest.main()
