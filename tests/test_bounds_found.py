"""The finder of values and of papers that show them, and of the walks of a flow."""

import copy
import inspect
import itertools
import random
import unittest

from netcourt.bounds import shown_bound
from netcourt.bounds_found import bound_paper, value_of, walks_of_flow
from netcourt.papers import read_paper, show_paper
from samples import GREAT, NO_PAPERS, all_of, figures, kinds_of, lists_in, net_of, spoil
from term_samples import (across_terms, chance_term, chance_wide_net, chance_wide_nets, edge_nets, full_wide_nets,
                          greatest_of_all_flows, ladder, set_terms, slow_shown, slow_value, wide_net)

ALL = ("all",)
WORDS = {"number", "size", "flow", "apart", "bare", "pairs", "plus", "least", "most", "times"}


def words_in(term):
    if type(term) is not tuple:
        return []
    return [term[0]] + [word for part in term[1:] for word in words_in(part)]


class ValueCase(unittest.TestCase):
    def assert_value(self, net, term, value):
        ahead = (all_of(net), copy.deepcopy(term))
        told = value_of(net, term)
        self.assertEqual((told, type(told)), (value, int), (all_of(net), term))
        for above in (True, False):
            paper = bound_paper(net, term, above)
            self.assertEqual(shown_bound(net, term, above, paper), value, (all_of(net), term, above, paper))
            self.assertEqual(slow_shown(net, term, above, paper), value, (all_of(net), term, above, paper))
            self.assertEqual(read_paper(show_paper(paper)), paper)
            self.assertLessEqual(figures(paper), 120)
            self.assertLessEqual(max(len(part) for part in lists_in(paper)), 300)
        self.assertEqual((all_of(net), term), ahead)


class TestManyNets(ValueCase):
    def test_small_nets(self):
        chance = random.Random(1)
        seen = {}
        for net in edge_nets() + chance_wide_nets(5, 60):
            for term in across_terms(net) + set_terms(net, chance, 20):
                value = slow_value(net, term)
                self.assert_value(net, term, value)
                seen[term[0], min(value, 3)] = True
        self.assertEqual(len(seen), 5 * 4)

    def test_full_nets(self):
        chance = random.Random(2)
        for net in full_wide_nets():
            for term in chance.sample(across_terms(net), min(60, len(across_terms(net)))) + set_terms(net, chance, 15):
                self.assert_value(net, term, value_of(net, term))

    def test_flows_of_small_widths_by_trying_all(self):
        chance = random.Random(3)
        for number in range(40):
            net = chance_wide_net(chance, chance.randint(2, 5), chance.randint(1, 6), range(1, 4))
            for a, b in itertools.permutations(net.places(), 2):
                self.assert_value(net, ("flow", a, b), greatest_of_all_flows(net, a, b))

    def test_terms_put_together(self):
        chance = random.Random(4)
        seen = {}
        for net in edge_nets() + chance_wide_nets(7, 30):
            for deep in (2, 2, 3, 3, 4, 6, 12):
                term = chance_term(chance, net, deep)
                self.assert_value(net, term, slow_value(net, term))
                seen.update(dict.fromkeys(words_in(term), True))
        self.assertLessEqual(WORDS, set(seen))

    def test_terms_put_together_of_full_nets(self):
        chance = random.Random(5)
        for net in full_wide_nets():
            for deep in (2, 7, 12):
                term = chance_term(chance, net, deep)
                self.assert_value(net, term, value_of(net, term))


class TestNumbersAndSets(ValueCase):
    def test_number(self):
        for number in (0, 1, -1, GREAT, -GREAT):
            for net in (net_of(""), net_of("ab", ("t", "a", "b", 1))):
                self.assert_value(net, ("number", number), number)

    def test_no_place(self):
        net = net_of("")
        for kind in (ALL, ("these", [])):
            self.assert_value(net, ("size", kind), 0)
            self.assert_value(net, ("pairs", kind, ALL), 0)
            self.assert_value(net, ("plus", ("size", kind), ("number", -2)), -2)

    def test_one_place(self):
        net = net_of("a")
        for kind in (ALL, ("from", "a"), ("to", "a"), ("these", ["a", "a"])):
            self.assert_value(net, ("size", kind), 1)
            self.assert_value(net, ("pairs", kind, kind), 0)
        self.assert_value(net, ("size", ("these", [])), 0)
        for word in ("flow", "apart", "bare"):
            self.assert_value(net, (word, "a", "a"), 0)

    def test_pairs(self):
        net = wide_net("abcdef", ("t", "a", "d", 2), ("u", "a", "e", 1), ("v", "b", "d", 1), ("w", "c", "d", 2),
                       ("x", "b", "d", 1), ("y", "d", "a", 7), ("z", "e", "f", 1))
        self.assert_value(net, ("pairs", ALL, ALL), 4)
        self.assert_value(net, ("pairs", ("these", ["a", "b", "c"]), ("these", ["d", "e"])), 2)
        self.assert_value(net, ("pairs", ("these", ["b", "c"]), ("these", ["d", "e"])), 1)
        self.assert_value(net, ("pairs", ("these", ["a", "a", "d"]), ("these", ["d", "a"])), 2)
        self.assert_value(net, ("pairs", ("from", "a"), ("to", "a")), 2)
        self.assert_value(net, ("pairs", ("these", ["f"]), ALL), 0)
        self.assert_value(net, ("pairs", ALL, ("these", [])), 0)

    def test_pairs_that_have_to_be_put_otherwise(self):
        net = wide_net("abcdefgh", ("s", "a", "e", 1), ("t", "a", "f", 1), ("u", "b", "e", 1), ("v", "b", "g", 1),
                       ("w", "c", "f", 1), ("x", "c", "g", 1), ("y", "d", "g", 1), ("z", "c", "h", 1))
        self.assert_value(net, ("pairs", ALL, ALL), 4)
        self.assert_value(net, ("pairs", ALL, ("these", list("efg"))), 3)

    def test_every_pair_of_sets_of_some_nets(self):
        for net in edge_nets()[-3:]:
            for s, t in itertools.product(kinds_of(net), repeat=2):
                self.assert_value(net, ("pairs", s, t), slow_value(net, ("pairs", s, t)))


class TestAcross(ValueCase):
    def assert_values(self, net, a, b, flow, apart, bare):
        for word, value in (("flow", flow), ("apart", apart), ("bare", bare)):
            self.assert_value(net, (word, a, b), value)

    def test_several_ties_and_ties_both_ways(self):
        net = wide_net("ab", ("t", "a", "b", 3), ("u", "a", "b", 4), ("v", "b", "a", 9), ("w", "a", "b", GREAT))
        self.assert_values(net, "a", "b", GREAT + 7, 3, 3)
        self.assert_values(net, "b", "a", 9, 1, 1)
        self.assert_values(net, "a", "a", 0, 0, 0)

    def test_places_that_no_walk_leads_to(self):
        net = wide_net("abcd", ("t", "a", "c", 3), ("u", "b", "c", 4), ("v", "d", "b", 9))
        self.assert_values(net, "a", "b", 0, 0, 0)
        self.assert_values(net, "d", "a", 0, 0, 0)
        self.assert_values(net, "d", "c", 4, 1, 1)

    def test_all_three_unlike(self):
        net = wide_net("abc", ("t", "a", "c", 3), ("u", "a", "c", 3), ("v", "c", "b", 2), ("w", "c", "b", 2),
                       ("x", "c", "a", 1))
        self.assert_values(net, "a", "b", 4, 2, 1)

    def test_a_walk_that_has_to_give_way(self):
        net = wide_net("abcdef", ("t", "a", "c", 5), ("u", "c", "f", 5), ("v", "f", "b", 5), ("w", "a", "d", 5),
                       ("x", "d", "f", 5), ("y", "c", "e", 5), ("z", "e", "b", 5))
        self.assert_values(net, "a", "b", 10, 2, 2)

    def test_great_widths_take_no_longer(self):
        net = wide_net("abcd", ("t", "a", "c", GREAT), ("u", "a", "d", GREAT), ("v", "c", "d", 1),
                       ("w", "c", "b", GREAT), ("x", "d", "b", GREAT), ("y", "d", "c", 1))
        self.assert_values(net, "a", "b", 2 * GREAT, 2, 2)

    def test_a_ladder(self):
        net = ladder((1,))
        first, last = net.places()[0], net.places()[9]
        self.assert_values(net, first, last, 2, 2, 2)

    def test_a_full_line_and_a_full_fan(self):
        line = wide_net("abcdefghijklmnopqrst")
        for number, (a, b) in enumerate(zip("abcdefghijklmnopqrs", "bcdefghijklmnopqrst")):
            line.tie(a, a, b, 2 + number, 0)
            line.tie("x" + a, a, b, 1, 0)
        self.assert_values(line, "a", "t", 3, 2, 1)
        fan = wide_net("abcdefghijklmnopqrst")
        for number, place in enumerate("cdefghijklmnopqrst"):
            fan.tie(place, "a", place, GREAT, 0)
            fan.tie("x" + place, place, "b", GREAT - number, 0)
        self.assert_values(fan, "a", "b", 18 * GREAT - 153, 18, 18)


class TestPutTogether(ValueCase):
    NET = wide_net("abc", ("t", "a", "b", 3), ("u", "a", "b", 4), ("v", "b", "c", 5))

    def test_each_word(self):
        flow, low = ("flow", "a", "b"), ("number", -2)
        for word, value in (("plus", 5), ("least", -2), ("most", 7)):
            self.assert_value(self.NET, (word, flow, low), value)
            self.assert_value(self.NET, (word, low, flow), value)
        for word, value in (("plus", 14), ("least", 7), ("most", 7)):
            self.assert_value(self.NET, (word, flow, flow), value)

    def test_times(self):
        for number in (0, 1, 6, GREAT):
            self.assert_value(self.NET, ("times", number, ("flow", "a", "c")), 5 * number)
            self.assert_value(self.NET, ("times", number, ("number", -GREAT)), -GREAT * number)
            self.assert_value(self.NET, ("times", number, ("times", 2, ("size", ALL))), 6 * number)

    def test_one_term_twice_in_another(self):
        term = ("apart", "a", "b")
        for word in ("plus", "most", "plus", "least", "plus", "most", "plus", "least", "plus", "most", "plus"):
            term = (word, term, term)
        self.assert_value(self.NET, term, 2 * 2 ** 6)


class TestWalksOfFlow(unittest.TestCase):
    def assert_walks(self, net, a, b, paper):
        ahead = (all_of(net), copy.deepcopy(paper))
        shown = shown_bound(net, ("flow", a, b), False, paper)
        walks = walks_of_flow(net, a, b, paper)
        self.assertIs(type(walks), list)
        self.assertEqual(len(walks), shown, (all_of(net), a, b, paper))
        for look in (shown_bound, slow_shown):
            self.assertEqual(look(net, ("apart", a, b), False, walks), shown, (all_of(net), a, b, paper, walks))
        self.assertLessEqual({name for walk in walks for name in walk}, {row[0] for row in paper})
        self.assertEqual((all_of(net), paper), ahead)
        as_was = copy.deepcopy(walks)
        spoil(walks)
        self.assertEqual(walks_of_flow(net, a, b, paper), as_was)

    def test_every_flow_of_small_nets(self):
        chance = random.Random(11)
        shown = {}
        for number in range(12):
            net = chance_wide_net(chance, chance.randint(2, 4), 8, (1,))
            a, b = net.places()[:2]
            for many in range(9):
                for names in itertools.combinations([row[0] for row in net.ties()], many):
                    paper = [[name, 1] for name in chance.sample(names, many)]
                    told = shown_bound(net, ("flow", a, b), False, paper)
                    if told is not None and told >= 0:
                        self.assert_walks(net, a, b, paper)
                        shown[told] = True
        self.assertLessEqual({0, 1, 2, 3}, set(shown))

    def test_found_flows_of_full_nets(self):
        chance = random.Random(12)
        for places in (2, 3, 6, 12, 20):
            net = chance_wide_net(chance, places, 40, (1,))
            for a, b in itertools.product(net.places()[:5], repeat=2):
                self.assert_walks(net, a, b, bound_paper(net, ("flow", a, b), False))

    def test_rings_that_touch_neither(self):
        net = wide_net("abcd", ("t", "a", "b", 1), ("u", "c", "d", 1), ("v", "d", "c", 1))
        self.assert_walks(net, "a", "b", [["u", 1], ["v", 1]])
        self.assert_walks(net, "a", "b", [["u", 1], ["t", 1], ["v", 1]])
        self.assert_walks(net, "a", "b", [["t", 1]])
        self.assert_walks(net, "a", "b", [])

    def test_rings_through_places_of_the_walk(self):
        net = wide_net("abcd", ("t", "a", "c", 1), ("u", "c", "d", 1), ("v", "d", "c", 1), ("w", "c", "b", 1))
        for order in itertools.permutations("tuvw"):
            self.assert_walks(net, "a", "b", [[name, 1] for name in order])

    def test_rings_through_a_and_b(self):
        net = wide_net("abcd", ("t", "a", "c", 1), ("u", "c", "a", 1), ("v", "b", "d", 1), ("w", "d", "b", 1),
                       ("x", "a", "b", 1), ("y", "b", "a", 1), ("z", "a", "b", 1))
        for names in ("tu", "vw", "tuvw", "xy", "x", "xz", "xyz", "tux", "vwz", "tuvwxyz", "tuvwxz", "xytuvw"):
            for order in itertools.islice(itertools.permutations(names), 0, None, 37):
                self.assert_walks(net, "a", "b", [[name, 1] for name in order])

    def test_a_ring_from_b_to_a_and_back(self):
        net = wide_net("abc", ("t", "b", "c", 1), ("u", "c", "a", 1), ("v", "a", "b", 1), ("w", "a", "c", 1),
                       ("x", "c", "b", 1))
        self.assert_walks(net, "a", "b", [["t", 1], ["u", 1], ["v", 1]])
        self.assert_walks(net, "a", "b", [["t", 1], ["u", 1], ["v", 1], ["w", 1], ["x", 1]])

    def test_a_and_b_the_same(self):
        for net in (wide_net("a"), wide_net("ab", ("t", "a", "b", 1), ("u", "b", "a", 1))):
            self.assertEqual(walks_of_flow(net, "a", "a", []), [])
            self.assert_walks(net, "a", "a", [])

    def test_what_is_no_such_paper(self):
        net = wide_net("abc", ("t", "a", "b", 1), ("u", "a", "c", 1))
        for paper in NO_PAPERS + ([["u", 1]], [["t", 2]], [["t", True]], ["t"], "t", 1, [["t", 1], ["t", 1]]):
            self.assertIs(walks_of_flow(net, "a", "b", paper), None)
        wide = wide_net("ab", ("t", "a", "b", GREAT))
        for number in (2, GREAT):
            self.assertIs(walks_of_flow(wide, "a", "b", [["t", number]]), None)

    def test_arguments(self):
        self.assertEqual(list(inspect.signature(walks_of_flow).parameters), ["net", "a", "b", "paper"])


class TestWhatIsTold(ValueCase):
    def test_told_lists_are_the_askers_own(self):
        chance = random.Random(13)
        for net in edge_nets() + chance_wide_nets(14, 10):
            terms = across_terms(net)[::3] + set_terms(net, chance, 9) + [("number", 1)]
            terms += [chance_term(chance, net, 4) for number in range(4)]
            for term in terms + [("plus", terms[0], terms[0]), ("most", terms[-1], terms[-1])]:
                ahead = copy.deepcopy((all_of(net), term))
                value = value_of(net, term)
                for above in (True, False):
                    told = bound_paper(net, term, above)
                    inner = lists_in(told)
                    self.assertEqual(len({id(part) for part in inner}), len(inner))
                    as_was = copy.deepcopy(told)
                    spoil(told)
                    self.assertEqual(bound_paper(net, term, above), as_was)
                    self.assertEqual(value_of(net, term), value)
                self.assertEqual((all_of(net), term), ahead)

    def test_a_set_handed_in_and_changed_behind(self):
        net = net_of("abc", ("t", "a", "b", 1))
        names = ["a", "b"]
        term = ("size", ("these", names))
        papers = [bound_paper(net, term, above) for above in (True, False)]
        names.append("c")
        self.assertEqual(papers, [["a", "b"], [["a", []], ["b", []]]])
        self.assert_value(net, term, 3)

    def test_later_deeds_change_nothing_told(self):
        net = net_of("abc", ("t", "a", "b", 1), ("u", "b", "c", 2))
        terms = across_terms(net) + set_terms(net, random.Random(15), 30)
        told = [bound_paper(net, term, above) for term in terms for above in (True, False)]
        as_was = copy.deepcopy(told)
        net.cut("t")
        net.alter("u", 5, 5)
        net.tie("v", "c", "a", 4, 1)
        for term in terms:
            self.assert_value(net, term, slow_value(net, term))
        self.assertEqual(told, as_was)

    def test_arguments(self):
        self.assertEqual(list(inspect.signature(value_of).parameters), ["net", "term"])
        self.assertEqual(list(inspect.signature(bound_paper).parameters), ["net", "term", "above"])


if __name__ == "__main__":
    unittest.main()
