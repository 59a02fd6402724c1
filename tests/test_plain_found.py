"""The finder of papers for or against plain claims."""

import copy
import inspect
import random
import unittest

from netcourt.plain import look_plain
from netcourt.plain_found import find_plain
from samples import (GREAT, all_of, chance_net, chance_nets, figures, full_nets, least_costs, lists_in, named_nets,
                     net_of, plain_claims, slow_look, slow_truth, spoil)


class FindCase(unittest.TestCase):
    def assert_found(self, net, claim, truth):
        told = find_plain(net, claim)
        self.assertIs(type(told), tuple)
        self.assertEqual(len(told), 2)
        so, paper = told
        self.assertIs(so, truth, (all_of(net), claim))
        self.assertIs(type(paper), list)
        self.assertIs(look_plain(net, claim, so, paper), True, (all_of(net), claim, told))
        self.assertIs(slow_look(net, claim, so, paper), True, (all_of(net), claim, told))
        self.assertIs(look_plain(net, claim, not so, paper), False, (all_of(net), claim, told))
        self.assertLessEqual(figures(paper), 120)
        self.assertLessEqual(max(len(part) for part in lists_in(paper)), 300)
        return paper


class TestManyNets(FindCase):
    def test_nets_at_the_edges(self):
        for net in named_nets():
            for claim in plain_claims(net):
                self.assert_found(net, claim, slow_truth(net, claim))

    def test_chance_nets(self):
        seen = {}
        for net in chance_nets(13, 60):
            for claim in plain_claims(net):
                truth = slow_truth(net, claim)
                self.assert_found(net, claim, truth)
                seen[claim[0], truth] = True
        self.assertEqual(len(seen), 10)

    def test_full_nets(self):
        chance = random.Random(5)
        for net in full_nets():
            for claim in [("ring",), ("round",)] + chance.sample(plain_claims(net), 60):
                self.assert_found(net, claim, slow_truth(net, claim))

    def test_full_nets_without_a_round(self):
        chance = random.Random(6)
        for costs in (range(-9, 9), (GREAT, -GREAT)):
            net = chance_net(chance, 20, 0, costs)
            for number in range(40):
                a, b = sorted(chance.sample(range(20), 2))
                net.tie("t" + net.places()[number % 20] + "uv"[number // 20], net.places()[a], net.places()[b], 1,
                        chance.choice(costs))
            self.assert_found(net, ("round",), False)
            self.assert_found(net, ("ring",), False)
            for claim in chance.sample(plain_claims(net), 60):
                self.assert_found(net, claim, slow_truth(net, claim))

    def test_a_long_line_and_a_long_ring(self):
        for cost in (1, -1, 0, GREAT, -GREAT):
            net = net_of("abcdefghijklmnopqrst")
            for place, further in zip("tsrqponmlkjihgfedcb", "srqponmlkjihgfedcba"):
                net.tie(place, place, further, 1, cost)
            self.assert_found(net, ("cost", "t", "a", 19 * cost), True)
            self.assert_found(net, ("cost", "t", "a", 19 * cost - 1), False)
            self.assert_found(net, ("ring",), False)
            self.assert_found(net, ("round",), False)
            net.tie("a", "a", "t", 1, cost)
            self.assert_found(net, ("round",), True)
            self.assert_found(net, ("ring",), cost < 0)
            self.assert_found(net, ("cost", "t", "a", 19 * cost - 1), cost < 0)


class TestAlike(FindCase):
    def test_a_b_and_x_alike(self):
        net = net_of("abc", ("t", "a", "b", 1), ("u", "b", "a", 1))
        for a in "abc":
            self.assert_found(net, ("way", a, a), True)
            self.assert_found(net, ("cost", a, a, 0), True)
            self.assert_found(net, ("cost", a, a, -1), False)
            self.assert_found(net, ("must", a, a, a), True)
            for b in "abc":
                self.assert_found(net, ("must", a, b, a), True)
                self.assert_found(net, ("must", a, b, b), True)
                self.assert_found(net, ("must", a, a, b), a == b)

    def test_the_empty_net(self):
        self.assert_found(net_of(""), ("ring",), False)
        self.assert_found(net_of(""), ("round",), False)


class TestCost(FindCase):
    def test_about_the_least_cost(self):
        for net in chance_nets(17, 40) + full_nets()[:1] + full_nets()[6:]:
            if not slow_truth(net, ("ring",)):
                for a in net.places()[:6]:
                    for b, least in least_costs(net, a).items():
                        self.assert_found(net, ("cost", a, b, least - 1), False)
                        self.assert_found(net, ("cost", a, b, least), True)
                        self.assert_found(net, ("cost", a, b, least + 1), True)

    def test_a_ring_below_nought_on_the_way(self):
        for ring in (-1, -2, -7, -GREAT):
            net = net_of("abcde", ("t", "a", "b", GREAT), ("u", "b", "c", 1), ("v", "c", "d", ring),
                         ("w", "d", "b", -1), ("x", "d", "e", GREAT))
            for k in (GREAT, 0, -1, -2, -3, -4, 2 * GREAT + ring + 1, 2 * GREAT + ring, -GREAT, 1 - GREAT, -10 ** 59):
                self.assert_found(net, ("cost", "a", "e", k), True)
                for a in "bcd":
                    for b in "bcde":
                        self.assert_found(net, ("cost", a, b, k), True)

    def test_a_ring_below_nought_that_leads_no_further(self):
        net = net_of("abcd", ("t", "a", "b", 3), ("u", "a", "c", 1), ("v", "c", "d", 1), ("w", "d", "c", -9))
        for k in (-GREAT, 2, 3, GREAT):
            self.assert_found(net, ("cost", "a", "b", k), k >= 3)
            self.assert_found(net, ("cost", "a", "c", k), True)
            self.assert_found(net, ("cost", "b", "c", k), False)

    def test_a_ring_below_nought_that_is_not_come_to(self):
        net = net_of("abcd", ("t", "a", "b", 3), ("u", "c", "a", 1), ("v", "c", "d", 1), ("w", "d", "c", -9))
        for k in (-GREAT, 2, 3, GREAT):
            self.assert_found(net, ("cost", "a", "b", k), k >= 3)
            self.assert_found(net, ("cost", "c", "b", k), True)
            self.assert_found(net, ("cost", "a", "d", k), False)

    def test_of_several_ties_the_cheapest(self):
        net = net_of("ab", ("t", "a", "b", 5), ("u", "a", "b", 3), ("v", "a", "b", 4))
        self.assert_found(net, ("cost", "a", "b", 3), True)
        self.assert_found(net, ("cost", "a", "b", 2), False)

    def test_a_longer_walk_may_be_cheaper(self):
        net = net_of("abcd", ("t", "a", "d", 0), ("u", "c", "d", -9), ("v", "b", "c", 4), ("w", "a", "b", 4))
        self.assert_found(net, ("cost", "a", "d", -1), True)
        self.assert_found(net, ("cost", "a", "d", -2), False)

    def test_rings_of_nought(self):
        net = net_of("abc", ("t", "a", "b", 5), ("u", "b", "a", -5), ("v", "b", "c", 0), ("w", "c", "b", 0))
        for k in (4, 5, 6):
            self.assert_found(net, ("cost", "a", "c", k), k >= 5)


class TestWhatIsTold(FindCase):
    def test_told_lists_are_the_askers_own(self):
        for net in named_nets() + chance_nets(19, 10):
            for claim in plain_claims(net):
                ahead = all_of(net), copy.deepcopy(claim)
                told = find_plain(net, claim)
                inner = lists_in(told[1])
                self.assertEqual(len({id(part) for part in inner}), len(inner))
                as_was = copy.deepcopy(told)
                spoil(told[1])
                self.assertEqual(find_plain(net, claim), as_was)
                self.assertEqual((all_of(net), claim), ahead)

    def test_later_deeds_change_nothing_told(self):
        net = net_of("abc", ("t", "a", "b", 1), ("u", "b", "c", 2))
        told = [find_plain(net, claim) for claim in plain_claims(net)]
        as_was = copy.deepcopy(told)
        net.cut("t")
        net.alter("u", 1, -5)
        net.tie("v", "c", "b", 1, 1)
        for claim in plain_claims(net):
            self.assert_found(net, claim, slow_truth(net, claim))
        self.assertEqual(told, as_was)

    def test_arguments(self):
        self.assertEqual(list(inspect.signature(find_plain).parameters), ["net", "claim"])


if __name__ == "__main__":
    unittest.main()
