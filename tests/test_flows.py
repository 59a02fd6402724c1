"""What flows, walks and pairs are reckoned by."""

import unittest

from netcourt import flows
from netcourt.flows import arcs_of_pairs, arcs_through_places, free_ways, greatest_flow, walks_along
from samples import GREAT
from term_samples import full_wide_nets, wide_net


class TestGreatestFlow(unittest.TestCase):
    def test_loads_of_all_arcs(self):
        arcs = [("t", "a", "b", 3), ("u", "b", "c", 2), ("v", "d", "c", 9), ("w", "b", "d", 5)]
        self.assertEqual(greatest_flow(arcs, "a", "c"), {"t": 3, "u": 2, "v": 1, "w": 1})
        self.assertEqual(greatest_flow(arcs, "c", "a"), {"t": 0, "u": 0, "v": 0, "w": 0})

    def test_free_ways_go_back_along_what_bears(self):
        arcs = [("t", "a", "b", 3), ("u", "c", "b", 2), ("v", "c", "d", 1)]
        self.assertEqual(set(free_ways(arcs, {"t": 3, "u": 0, "v": 0}, "a")), {"a"})
        self.assertEqual(set(free_ways(arcs, {"t": 2, "u": 0, "v": 0}, "a")), {"a", "b"})
        self.assertEqual(free_ways(arcs, {"t": 1, "u": 2, "v": 0}, "a")["d"], [("t", 1, 2), ("u", -1, 2), ("v", 1, 1)])
        self.assertEqual(set(free_ways(arcs, {"t": 1, "u": 2, "v": 1}, "a")), {"a", "b", "c"})

    def test_how_often_is_added_does_not_hang_on_widths(self):
        added = []
        add_along = flows.add_along

        def count_and_add(loads, way):
            added.append(len(way))
            add_along(loads, way)

        flows.add_along = count_and_add
        try:
            for width in (1, 10, GREAT):
                net = wide_net("abcd", ("t", "a", "c", width), ("u", "a", "d", width), ("v", "c", "d", 1),
                               ("w", "c", "b", width), ("x", "d", "b", width))
                greatest_flow(flows.arcs_of_ties(net), "a", "b")
                self.assertEqual(added, [2, 2])
                added.clear()
            for net in full_wide_nets():
                for place in net.places()[1:]:
                    greatest_flow(flows.arcs_of_ties(net), net.places()[0], place)
                    self.assertEqual(added, sorted(added))
                    self.assertLess(len(added), 40 * 20)
                    added.clear()
        finally:
            flows.add_along = add_along


class TestWalks(unittest.TestCase):
    def test_as_many_as_told(self):
        ties = [("t", "a", "b"), ("u", "a", "c"), ("v", "c", "b"), ("w", "d", "e"), ("x", "e", "d")]
        self.assertEqual(walks_along(ties, "a", "b", 2), [["t"], ["u", "v"]])
        self.assertEqual(walks_along(ties, "a", "b", 1), [["t"]])
        self.assertEqual(walks_along(ties, "a", "b", 0), [])
        self.assertEqual(len(ties), 5)


class TestArcs(unittest.TestCase):
    def test_one_walk_passes_a_place(self):
        net = wide_net("abc", ("t", "a", "c", 9), ("u", "a", "c", 9), ("v", "c", "b", 9), ("w", "a", "b", 9))
        loads = greatest_flow(arcs_through_places(net, "a", "b"), ("a", "out"), ("b", "in"))
        self.assertEqual((loads["t"] + loads["u"], loads["v"], loads["w"]), (1, 1, 1))

    def test_one_pair_has_a_beginning_and_an_end(self):
        net = wide_net("abc", ("t", "a", "b", 9), ("u", "a", "c", 9), ("v", "c", "b", 9), ("w", "b", "c", 9))
        loads = greatest_flow(arcs_of_pairs(net, ["a", "c"], ["b", "c"]), "first", "last")
        self.assertEqual((loads["t"], loads["u"], loads["v"], loads["w"]), (0, 1, 1, 0))


if __name__ == "__main__":
    unittest.main()
