"""Sets of places: what lies in them, and the papers that show it."""

import copy
import inspect
import unittest

from netcourt.papers import walk_end
from netcourt.sets import is_member, is_within, member_paper, members_of, within_paper
from samples import (NO_PAPERS, ODD_PARTS, all_of, chance_nets, changed_papers, full_nets, kinds_of, named_nets,
                     net_of, slow_members)

# f stands apart; d and e lead to one another; the net's order is not that of the letters.
NET = net_of("cafbed", ("t", "a", "b", 1), ("u", "b", "c", 1), ("v", "c", "b", 1), ("w", "d", "e", 1),
             ("x", "e", "d", 1), ("y", "d", "a", 1), ("a", "a", "b", 1))


def some_nets():
    words = net_of("")
    for number, (a, b) in enumerate((("all", "from"), ("from", "these"), ("to", "all"), ("in", "to"))):
        words.tie(f"t{'abcd'[number]}", a, b, 1, 1)
    return named_nets() + chance_nets(8, 30) + [NET, words]


class TestMembers(unittest.TestCase):
    def test_all(self):
        self.assertEqual(members_of(NET, ("all",)), ["c", "a", "f", "b", "e", "d"])
        self.assertEqual(members_of(net_of(""), ("all",)), [])

    def test_from(self):
        for place, members in (("a", "cab"), ("b", "cb"), ("c", "cb"), ("d", "cabed"), ("e", "cabed"), ("f", "f")):
            self.assertEqual(members_of(NET, ("from", place)), list(members))

    def test_to(self):
        for place, members in (("a", "aed"), ("b", "cabed"), ("c", "cabed"), ("d", "ed"), ("e", "ed"), ("f", "f")):
            self.assertEqual(members_of(NET, ("to", place)), list(members))

    def test_these(self):
        for names, members in (([], ""), (["f"], "f"), (["b", "a"], "ab"), (["d", "c", "d", "d", "c"], "cd"),
                               (list("abcdef"), "cafbed")):
            self.assertEqual(members_of(NET, ("these", names)), list(members))

    def test_many_nets(self):
        for net in some_nets():
            for kind in kinds_of(net):
                members = members_of(net, kind)
                self.assertIs(type(members), list)
                self.assertEqual(members, slow_members(net, kind), (all_of(net), kind))


class TestWithin(unittest.TestCase):
    def assert_within(self, kind, paper, answer=True):
        self.assertIs(is_within(NET, kind, paper), answer, (kind, paper))

    def test_all(self):
        for paper in ("cafbed", "abcdef", "fedcba"):
            self.assert_within(("all",), list(paper))
        for paper in ("", "c", "cafbe", "afbed", "cafbedd", "ccafbed", "cafbez", "cafbedz"):
            self.assert_within(("all",), list(paper), False)
        self.assertIs(is_within(net_of(""), ("all",), []), True)
        self.assertIs(is_within(net_of(""), ("all",), ["a"]), False)

    def test_from(self):
        for paper in ("abc", "cba", "abcf", "abcdef", "abcde", "fabc"):
            self.assert_within(("from", "a"), list(paper))
        for paper in ("", "a", "ab", "ac", "bc", "abcd", "abce", "abcfd", "aabc", "abcc", "abcz", "zabc"):
            self.assert_within(("from", "a"), list(paper), False)
        self.assert_within(("from", "f"), ["f"])
        self.assert_within(("from", "f"), [], False)
        self.assert_within(("from", "f"), ["f", "c", "b"])

    def test_to(self):
        for paper in ("ade", "eda", "adef", "abcde", "abcdef"):
            self.assert_within(("to", "a"), list(paper))
        for paper in ("", "a", "ad", "ae", "de", "adeb", "adec", "adee", "aade", "adez"):
            self.assert_within(("to", "a"), list(paper), False)
        self.assert_within(("to", "f"), ["f"])
        self.assert_within(("to", "f"), [], False)

    def test_these(self):
        for names, paper in (("", ""), ("", "a"), ("a", "a"), ("a", "ba"), ("aba", "ab"), ("ff", "f"),
                             ("ab", "abcdef")):
            self.assert_within(("these", list(names)), list(paper))
        for names, paper in (("a", ""), ("ab", "a"), ("aba", "b"), ("aa", "aa"), ("a", "aa"), ("", "aa"), ("a", "az"),
                             ("", "z"), ("aba", "aba")):
            self.assert_within(("these", list(names)), list(paper), False)

    def test_a_tie_called_otherwise_than_any_place_is_no_place(self):
        for name in ("t", "u", "w"):
            self.assert_within(("these", []), [name], False)

    def test_of_another_shape(self):
        for kind in kinds_of(NET):
            right = within_paper(NET, kind)
            for thing in NO_PAPERS + ("", "a", "abcdef", "cafbed", 0, 1, 6, tuple(right), "".join(right), [right]):
                self.assert_within(kind, thing, False)
            for part in ODD_PARTS:
                self.assert_within(kind, right + [part], False)
                self.assert_within(kind, [part] + right, False)

    def test_what_is_told_is_let_by(self):
        for net in some_nets() + full_nets():
            for kind in kinds_of(net):
                paper = within_paper(net, kind)
                self.assertIs(type(paper), list)
                self.assertIs(is_within(net, kind, paper), True)
                self.assertIs(is_within(net, kind, paper[::-1]), True)
                self.assertLessEqual(set(members_of(net, kind)), set(paper))

    def test_whatever_is_let_by_holds_the_set(self):
        for net in some_nets():
            for kind in kinds_of(net):
                members = set(slow_members(net, kind))
                for paper in changed_papers(within_paper(net, kind), net.places() + ["zz", "t"]):
                    if is_within(net, kind, paper) is not False:
                        self.assertIs(type(paper), list)
                        self.assertEqual(len(set(paper)), len(paper))
                        self.assertTrue(members <= set(paper) <= set(net.places()))


class TestMember(unittest.TestCase):
    def assert_member(self, kind, place, paper, answer=True):
        self.assertIs(is_member(NET, kind, place, paper), answer, (kind, place, paper))

    def test_all(self):
        for place in NET.places():
            self.assert_member(("all",), place, [])
            for paper in NO_PAPERS + (["t"], [[]], ["a"], [0], "", 0, "a"):
                self.assert_member(("all",), place, paper, False)

    def test_from(self):
        for a, place, walk in (("a", "a", ""), ("a", "b", "t"), ("a", "b", "a"), ("a", "c", "tu"), ("a", "b", "tuv"),
                               ("a", "c", "auvuvu"), ("b", "b", "uv"), ("d", "c", "wxyau"), ("f", "f", "")):
            self.assert_member(("from", a), place, list(walk))
        for a, place, walk in (("a", "b", ""), ("a", "c", ""), ("a", "c", "t"), ("a", "b", "tu"), ("a", "b", "uv"),
                               ("b", "a", "t"), ("b", "a", ""), ("a", "d", "y"), ("d", "a", "wy"), ("a", "f", ""),
                               ("a", "a", "t"), ("a", "b", "tt"), ("a", "b", "zt")):
            self.assert_member(("from", a), place, list(walk), False)

    def test_to(self):
        for a, place, walk in (("a", "a", ""), ("b", "a", "t"), ("c", "a", "tu"), ("c", "a", "auvu"), ("a", "e", "xy"),
                               ("b", "b", "uv"), ("f", "f", "")):
            self.assert_member(("to", a), place, list(walk))
        for a, place, walk in (("a", "b", "t"), ("b", "a", ""), ("c", "a", "t"), ("b", "a", "tu"), ("c", "a", "ut"),
                               ("a", "d", "w"), ("f", "a", ""), ("a", "a", "t"), ("b", "a", "tt")):
            self.assert_member(("to", a), place, list(walk), False)

    def test_these(self):
        self.assert_member(("these", ["b", "a", "b"]), "a", [])
        self.assert_member(("these", ["b", "a", "b"]), "b", [])
        self.assert_member(("these", ["b", "a", "b"]), "c", [], False)
        self.assert_member(("these", []), "a", [], False)
        for paper in NO_PAPERS + (["t"], [[]], ["a"], [0], "", 0, "a"):
            self.assert_member(("these", ["a"]), "a", paper, False)
            self.assert_member(("these", ["a"]), "b", paper, False)

    def test_of_another_shape(self):
        for kind in kinds_of(NET):
            for place in NET.places():
                right = member_paper(NET, kind, place)
                for thing in NO_PAPERS + ("", 0, 1, "t", "a", [[]], [right]):
                    self.assert_member(kind, place, thing, False)
                if right is not None:
                    self.assert_member(kind, place, tuple(right), False)
                    for part in ODD_PARTS:
                        self.assert_member(kind, place, right + [part], False)
                        self.assert_member(kind, place, [part] + right, False)

    def test_what_is_told_is_let_by(self):
        for net in some_nets() + full_nets():
            for kind in kinds_of(net):
                members = members_of(net, kind)
                for place in net.places():
                    paper = member_paper(net, kind, place)
                    self.assertEqual(paper is None, place not in members)
                    if paper is not None:
                        self.assertIs(is_member(net, kind, place, paper), True)
                        self.assertIs(type(paper), list)

    def test_whatever_is_let_by_is_in_the_set(self):
        for net in some_nets():
            for kind in kinds_of(net):
                members = slow_members(net, kind)
                for place in net.places():
                    for paper in changed_papers(member_paper(net, kind, place) or [], [row[0] for row in net.ties()]):
                        if is_member(net, kind, place, paper) is not False:
                            self.assertIn(place, members)
                            self.assertIs(type(paper), list)
                            if kind[0] in ("from", "to"):
                                ends = (kind[1], place) if kind[0] == "from" else (place, kind[1])
                                self.assertEqual(walk_end(net, ends[0], paper), ends[1])
                            else:
                                self.assertEqual(paper, [])

    def test_a_name_that_is_no_place_is_in_no_set(self):
        for kind in kinds_of(NET):
            for name in ("zz", "t", ""):
                self.assertIsNone(member_paper(NET, kind, name))
                self.assert_member(kind, name, [], False)


class TestWhatIsTold(unittest.TestCase):
    def test_told_lists_are_the_askers_own(self):
        for net in some_nets():
            for kind in kinds_of(net):
                asked = [lambda: members_of(net, kind), lambda: within_paper(net, kind)]
                asked += [lambda place=place: member_paper(net, kind, place) for place in net.places()]
                for ask in asked:
                    told = ask()
                    if told is not None:
                        ahead = list(told)
                        told.reverse()
                        told.append("zz")
                        self.assertEqual(ask(), ahead)

    def test_nothing_is_changed(self):
        for net in some_nets():
            ahead = all_of(net)
            for kind in kinds_of(net):
                as_was = copy.deepcopy(kind)
                paper = within_paper(net, kind)
                is_within(net, kind, paper)
                self.assertEqual(paper, within_paper(net, kind))
                for place in net.places():
                    walk = member_paper(net, kind, place)
                    is_member(net, kind, place, walk)
                    self.assertEqual(walk, member_paper(net, kind, place))
                self.assertEqual(kind, as_was)
            self.assertEqual(all_of(net), ahead)

    def test_a_list_of_names_may_be_changed_behind(self):
        names = ["b", "a"]
        told = (members_of(NET, ("these", names)), within_paper(NET, ("these", names)))
        names.append("c")
        self.assertEqual(told, (["a", "b"], ["a", "b"]))
        self.assertEqual(members_of(NET, ("these", names)), ["c", "a", "b"])

    def test_the_net_of_now(self):
        net = net_of("abc", ("t", "a", "b", 1))
        self.assertEqual(members_of(net, ("from", "a")), ["a", "b"])
        net.tie("u", "b", "c", 1, 1)
        self.assertEqual(members_of(net, ("from", "a")), ["a", "b", "c"])
        self.assertIs(is_within(net, ("from", "a"), ["a", "b"]), False)
        net.cut("t")
        self.assertEqual(members_of(net, ("from", "a")), ["a"])
        self.assertIs(is_member(net, ("from", "a"), "b", ["t"]), False)

    def test_arguments(self):
        for deed, arguments in ((is_within, ["net", "kind", "paper"]), (is_member, ["net", "kind", "place", "paper"]),
                                (members_of, ["net", "kind"]), (within_paper, ["net", "kind"]),
                                (member_paper, ["net", "kind", "place"])):
            self.assertEqual(list(inspect.signature(deed).parameters), arguments)


if __name__ == "__main__":
    unittest.main()
