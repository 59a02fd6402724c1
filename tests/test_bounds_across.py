"""The looker at papers for flow, apart and bare."""

import itertools
import unittest

from samples import GREAT, NO_PAPERS
from term_samples import BoundCase, chance_wide_nets, wide_net

# Two lines from a to b, with a rung between them, one straight tie, and a ring that touches neither a nor b.
NET = wide_net("abcdef", ("t", "a", "c", 4), ("u", "c", "b", 3), ("v", "a", "d", 2), ("w", "d", "b", GREAT),
               ("x", "c", "d", 5), ("y", "a", "b", 7), ("e", "e", "f", 2), ("f", "f", "e", 6))
FLOW, APART, BARE = [(word, "a", "b") for word in ("flow", "apart", "bare")]
# Ties into a and out of b.
BACK = wide_net("abc", ("t", "a", "b", 3), ("u", "b", "a", 2), ("v", "c", "a", 5), ("w", "b", "c", 4),
                ("x", "a", "c", 1), ("y", "c", "b", 1))


class TestFlowBelow(BoundCase):
    def test_the_empty_list_shows_nought(self):
        for net in (NET, BACK, wide_net("ab")):
            self.assert_below(net, FLOW, (0, []))

    def test_numbers_from_one_to_the_width(self):
        self.assert_below(NET, FLOW, (1, [["y", 1]]), (7, [["y", 7]]), (3, [["y", 3]]),
                          (3, [["t", 3], ["u", 3]]), (2, [["w", 2], ["v", 2]]),
                          (4, [["x", 1], ["t", 4], ["u", 3], ["w", 1]]),
                          (13, [["t", 4], ["u", 3], ["v", 2], ["w", 3], ["x", 1], ["y", 7]]))
        self.assert_none_below(NET, FLOW, [["y", 0]], [["y", 8]], [["y", -1]], [["y", True]], [["y", False]],
                               [["y", None]], [["y", "7"]], [["y", [7]]], [["y", GREAT]], [["y", 7], ["t", 0]],
                               [["t", 4], ["u", 4]], [["t", -1], ["u", -1]], [["t", True], ["u", True]])

    def test_a_tie_told_twice_or_strange(self):
        self.assert_none_below(NET, FLOW, [["y", 1], ["y", 1]], [["y", 1], ["y", 2]], [["zz", 1]], [["a", 1]],
                               [["y", 1], ["zz", 1]], [[["y"], 1]], [[1, 1]], [[None, 1]], [[True, 1]], [["Y", 1]],
                               [["", 1]])

    def test_of_another_shape(self):
        self.assert_none_below(NET, FLOW, ["y"], ["y", 1], [["y"]], [["y", 1, 1]], [[]], [("y", 1)], (["y", 1],),
                               {"y": 1}, [{"y": 1}], "y", 1, None, True, ())

    def test_as_many_into_as_out_of_each_place_between(self):
        self.assert_none_below(NET, FLOW, [["t", 1]], [["u", 1]], [["t", 2], ["u", 1]], [["t", 1], ["u", 2]],
                               [["t", 1], ["x", 1]], [["x", 1], ["w", 1]], [["t", 1], ["w", 1]], [["e", 1]],
                               [["e", 1], ["f", 2]], [["y", 1], ["e", 1]], [["t", 1], ["u", 1], ["x", 1]])

    def test_rings_that_touch_neither(self):
        self.assert_below(NET, FLOW, (0, [["e", 1], ["f", 1]]), (0, [["f", 2], ["e", 2]]),
                          (8, [["e", 2], ["y", 7], ["f", 2], ["v", 1], ["w", 1]]))
        self.assert_none_below(NET, FLOW, [["e", 3], ["f", 3]])

    def test_what_comes_into_a_counts_less(self):
        self.assert_below(BACK, FLOW, (3, [["t", 3]]), (-2, [["u", 2]]), (-1, [["u", 1]]), (1, [["t", 3], ["u", 2]]),
                          (0, [["t", 2], ["u", 2]]), (-4, [["w", 4], ["v", 4]]), (-6, [["w", 4], ["v", 4], ["u", 2]]),
                          (-3, [["t", 3], ["w", 4], ["v", 4], ["u", 2]]), (0, [["x", 1], ["v", 1]]),
                          (0, [["y", 1], ["w", 1]]), (4, [["t", 3], ["x", 1], ["y", 1]]),
                          (3, [["t", 3], ["x", 1], ["y", 1], ["v", 1], ["w", 1]]),
                          (0, [["x", 1], ["y", 1], ["v", 1], ["w", 1]]))
        self.assert_none_below(BACK, FLOW, [["v", 1]], [["w", 1]], [["x", 1]], [["y", 1]], [["w", 4], ["v", 3]],
                               [["x", 1], ["y", 1], ["v", 1]])

    def test_widths_of_sixty_figures(self):
        net = wide_net("abc", ("t", "a", "c", GREAT), ("u", "c", "b", GREAT - 1), ("v", "a", "b", GREAT))
        self.assert_below(net, FLOW, (GREAT, [["v", GREAT]]), (GREAT - 1, [["t", GREAT - 1], ["u", GREAT - 1]]),
                          (2 * GREAT - 1, [["t", GREAT - 1], ["u", GREAT - 1], ["v", GREAT]]))
        self.assert_none_below(net, FLOW, [["v", GREAT + 1]], [["t", GREAT], ["u", GREAT]],
                               [["t", GREAT], ["u", GREAT - 1]], [["v", GREAT * GREAT]])


class TestFlowAbove(BoundCase):
    def test_the_widths_of_the_ties_that_leave(self):
        self.assert_above(NET, FLOW, (13, ["a"]), (17, ["a", "c"]), (GREAT + 11, ["d", "a"]),
                          (GREAT + 10, ["d", "c", "a"]), (15, ["a", "e"]), (13, ["f", "a", "e"]), (19, ["a", "f"]))
        self.assert_above(BACK, FLOW, (4, ["a"]), (4, ["a", "c"]))

    def test_where_no_tie_leaves(self):
        self.assert_above(NET, ("flow", "b", "a"), (0, ["b"]), (0, ["b", "d"]), (0, ["b", "c", "d", "e", "f"]),
                          (2, ["b", "e"]))
        self.assert_above(NET, ("flow", "e", "a"), (0, ["e", "f"]), (2, ["e"]))
        self.assert_above(wide_net("ab"), FLOW, (0, ["a"]))

    def test_no_such_list(self):
        for term in (FLOW, APART):
            self.assert_none_above(NET, term, [], ["c"], ["c", "d"], ["a", "b"], ["b"], ["a", "b", "c", "d", "e", "f"],
                                   ["a", "a"], ["a", "c", "c"], ["a", "z"], ["a", "t"], ["a", 1], ["a", None],
                                   ["a", True], ["a", ["c"]], [["a"]], ("a",), "a", 1, None, {"a": 1}, [["a"], []])


class TestApartBelow(BoundCase):
    def test_walks_that_share_no_tie(self):
        self.assert_below(NET, APART, (0, []), (1, [["y"]]), (1, [["t", "u"]]), (2, [["t", "x", "w"], ["y"]]),
                          (3, [["y"], ["v", "w"], ["t", "u"]]))
        self.assert_none_below(NET, APART, [["y"], ["y"]], [["t", "u"], ["t", "x", "w"]],
                               [["v", "w"], ["t", "x", "w"]], [["t", "u"], ["t", "u"]])

    def test_walks_may_share_places(self):
        net = wide_net("abc", ("t", "a", "c", 1), ("u", "a", "c", 9), ("v", "c", "b", 1), ("w", "c", "b", 1))
        self.assert_below(net, APART, (2, [["t", "v"], ["u", "w"]]), (2, [["u", "v"], ["t", "w"]]))
        self.assert_none_below(net, APART, [["t", "v"], ["u", "v"]], [["t", "v"], ["t", "w"]])
        self.assert_none_below(net, BARE, [["t", "v"], ["u", "w"]])

    def test_a_tie_twice_in_one_walk(self):
        net = wide_net("abcd", ("t", "a", "c", 9), ("u", "c", "d", 9), ("v", "d", "c", 9), ("w", "c", "b", 9),
                       ("x", "d", "c", 9))
        self.assert_below(net, APART, (1, [["t", "u", "v", "w"]]), (1, [["t", "w"]]))
        self.assert_none_below(net, APART, [["t", "u", "v", "u", "x", "w"]], [["t", "u", "v", "u", "v", "w"]])
        self.assert_none_below(net, BARE, [["t", "u", "v", "w"]])

    def test_walks_that_lead_or_begin_elsewhere(self):
        for term in (APART, BARE):
            self.assert_none_below(NET, term, [[]], [["y"], []], [["t"]], [["u"]], [["x", "w"]], [["t", "x"]],
                                   [["e"]], [["e", "f"]], [["t", "w"]], [["u", "t"]], [["y"], ["t"]],
                                   [["y", "e", "f"]], [["zz"]], [["a"]])

    def test_walks_that_come_to_a_or_b_again(self):
        self.assert_below(BACK, APART, (1, [["t", "u", "x", "y"]]), (1, [["x", "v", "t"]]), (1, [["t", "w", "y"]]),
                          (1, [["x", "y", "u", "t"]]), (2, [["t"], ["x", "y"]]),
                          (1, [["x", "v", "t", "w", "y"]]))
        self.assert_none_below(BACK, APART, [["t", "u", "x", "y"], ["t"]], [["t", "u"]], [["x", "v"]])
        self.assert_none_below(BACK, BARE, [["t", "u", "x", "y"]], [["x", "v", "t"]], [["t", "w", "y"]],
                               [["x", "y", "u", "t"]])

    def test_of_another_shape(self):
        for term in (APART, BARE):
            self.assert_none_below(NET, term, ["y"], "y", ("y",), (["y"],), [("y",)], [[["y"]]], [["y", None]],
                                   [[True]], [[1]], [None], [1], 1, None, True, {}, [{"y": 1}], ["t", "u"])


class TestApartAbove(BoundCase):
    def test_as_many_as_ties_leave(self):
        self.assert_above(NET, APART, (3, ["a"]), (4, ["a", "c"]), (3, ["a", "d"]), (3, ["d", "c", "a"]),
                          (4, ["a", "e"]), (3, ["a", "e", "f"]))
        self.assert_above(BACK, APART, (2, ["a"]), (2, ["c", "a"]))
        self.assert_above(NET, ("apart", "b", "a"), (0, ["b"]), (1, ["b", "f"]))

    def test_several_ties_between_the_same_two(self):
        net = wide_net("ab", ("t", "a", "b", GREAT), ("u", "a", "b", 1), ("v", "b", "a", 1))
        self.assert_above(net, APART, (2, ["a"]))
        self.assert_above(net, FLOW, (GREAT + 1, ["a"]))
        self.assert_above(net, ("apart", "b", "a"), (1, ["b"]))


class TestBareBelow(BoundCase):
    def test_walks_that_share_nothing(self):
        self.assert_below(NET, BARE, (0, []), (1, [["y"]]), (3, [["t", "u"], ["y"], ["v", "w"]]),
                          (2, [["t", "x", "w"], ["y"]]))

    def test_walks_that_share_a_place(self):
        net = wide_net("abcde", ("t", "a", "c", 1), ("u", "a", "d", 1), ("v", "c", "e", 1), ("w", "d", "e", 1),
                       ("x", "e", "b", 1), ("y", "e", "b", 1), ("z", "c", "b", 1), ("s", "d", "c", 1))
        self.assert_below(net, APART, (2, [["t", "v", "x"], ["u", "w", "y"]]))
        self.assert_none_below(net, BARE, [["t", "v", "x"], ["u", "w", "y"]], [["t", "z"], ["u", "s", "v", "x"]])
        self.assert_below(net, BARE, (2, [["t", "z"], ["u", "w", "y"]]), (1, [["u", "s", "v", "x"]]))

    def test_several_ties_from_a_to_b(self):
        net = wide_net("abc", ("t", "a", "b", 1), ("u", "a", "b", 5), ("v", "a", "b", 1), ("w", "a", "c", 1),
                       ("x", "c", "b", 1), ("y", "a", "c", 1))
        self.assert_below(net, BARE, (1, [["u"]]), (3, [["v"], ["t"], ["u"]]), (4, [["w", "x"], ["v"], ["t"], ["u"]]))
        self.assert_none_below(net, BARE, [["u"], ["u"]], [["w", "x"], ["y", "x"]])


class TestBareAbove(BoundCase):
    def test_stops_and_straight_ties(self):
        self.assert_above(NET, BARE, (3, [["a"], ["c", "d"]]), (3, [["a"], ["d", "c"]]),
                          (5, [["a"], ["c", "d", "e", "f"]]),
                          (4, [["a", "e"], ["c", "f", "d"]]), (3, [["f", "e", "a"], ["c", "d"]]))
        line = wide_net("abcd", ("t", "a", "c", 3), ("u", "c", "d", 3), ("v", "d", "b", 3), ("w", "b", "a", 3))
        self.assert_above(line, BARE, (1, [["a"], ["c"]]), (1, [["a", "c"], ["d"]]), (2, [["a"], ["c", "d"]]))
        self.assert_none_above(line, BARE, [["a"], []], [["a"], ["d"]], [["a", "c", "d"], []], [["a", "d"], ["c"]])

    def test_a_place_in_both_or_twice_or_strange(self):
        self.assert_none_above(NET, BARE, [["a", "c"], ["c", "d"]], [["a"], ["c", "d", "d"]], [["a", "a"], ["c", "d"]],
                               [["a", "e"], ["c", "d", "e", "f"]], [["a"], ["c", "d", "z"]], [["a", "z"], ["c", "d"]],
                               [["a", "t"], ["c", "d"]], [["a"], ["c", "d", 1]], [["a", True], ["c", "d"]],
                               [["a", ["e"]], ["c", "d"]])

    def test_a_and_b_where_they_may_not_be(self):
        self.assert_none_above(NET, BARE, [["a", "b"], ["c", "d"]], [["a"], ["c", "d", "b"]], [["a"], ["a", "c", "d"]],
                               [[], ["c", "d"]], [[], ["a", "c", "d"]], [["e", "f"], ["c", "d"]], [[], []],
                               [["b"], ["c", "d"]], [["c", "d"], ["a"]], [["a", "c", "d", "b"], []])

    def test_ties_that_end_in_neither(self):
        self.assert_none_above(NET, BARE, [["a"], ["c"]], [["a"], ["d"]], [["a"], []], [["a", "c"], ["d"]],
                               [["a", "d"], ["c"]], [["a", "e"], ["c", "d"]], [["a", "f"], ["c", "d"]])

    def test_only_straight_ties_may_lead_to_b(self):
        net = wide_net("abc", ("t", "a", "b", 4), ("u", "a", "b", 1), ("v", "b", "a", 1), ("w", "a", "c", 1),
                       ("x", "c", "a", 1))
        self.assert_above(net, BARE, (2, [["a", "c"], []]), (3, [["a"], ["c"]]))
        self.assert_none_above(net, BARE, [["a"], []])
        self.assert_above(net, ("bare", "b", "a"), (1, [["b"], []]), (2, [["b"], ["c"]]))
        self.assert_above(net, ("bare", "c", "b"), (1, [["c"], ["a"]]))
        self.assert_none_above(net, ("bare", "c", "b"), [["c", "a"], []], [["c"], []])
        net.tie("y", "c", "b", 1, 1)
        self.assert_none_above(net, BARE, [["a", "c"], []])
        self.assert_above(net, BARE, (3, [["a"], ["c"]]))

    def test_of_another_shape(self):
        self.assert_none_above(NET, BARE, ["a", "c", "d"], [["a"]], [["a"], ["c", "d"], []], [], [["a", "c", "d"]],
                               (["a"], ["c", "d"]), [("a",), ["c", "d"]], [["a"], ("c", "d")], ["a", ["c", "d"]],
                               [["a"], "cd"], [["a"], None], [["a"], 2], "a", 3, None, True)


class TestTheSamePlace(BoundCase):
    def test_the_empty_list_alone(self):
        for net in (NET, BACK, wide_net("a")):
            for word in ("flow", "apart", "bare"):
                for place in net.places():
                    term = (word, place, place)
                    papers = NO_PAPERS + ([[]], [place], [[place]], [[place], []], [[], []], [["e", 1], ["f", 1]],
                                          [["e", "f"]], [["t", 1], ["u", 1]], [["t", "u"]], "", 0, net.places())
                    self.assert_above(net, term, (0, []))
                    self.assert_below(net, term, (0, []))
                    self.assert_none_above(net, term, *papers)
                    self.assert_none_below(net, term, *papers)


class TestAllPapers(BoundCase):
    def test_each_list_of_places(self):
        for net in chance_wide_nets(31, 8) + [NET, BACK]:
            places = net.places()[:5]
            for many in range(len(places) + 1):
                for paper in itertools.permutations(places, many):
                    for word in ("flow", "apart"):
                        term = (word, places[0], places[1])
                        fits = places[0] in paper and places[1] not in paper
                        leaving = [row for row in net.ties() if row[1] in paper and row[2] not in paper]
                        number = sum(row[3] for row in leaving) if word == "flow" else len(leaving)
                        self.assert_sound(net, term, True, list(paper), number if fits else None)

    def test_each_flow_of_a_small_net(self):
        net = wide_net("abc", ("t", "a", "b", 1), ("u", "b", "a", 2), ("v", "c", "a", 1), ("w", "b", "c", 1),
                       ("x", "a", "c", 1), ("y", "c", "b", 2))
        shown = []
        for loads in itertools.product(*[range(row[3] + 1) for row in net.ties()]):
            t, u, v, w, x, y = loads
            paper = [[name, load] for name, load in zip("tuvwxy", loads) if load]
            number = t + x - u - v if v + y == w + x else None
            self.assert_sound(net, FLOW, False, paper, number)
            shown.append(number)
        numbers = {number for number in shown if number is not None}
        self.assertEqual((min(numbers), max(numbers)), (-3, 2))


if __name__ == "__main__":
    unittest.main()
