"""The net: its deeds, what each refuses and in which order, and what is told of it."""

import random
import unittest

from netcourt.errors import CourtError, NoName, NoTie, NoWidth, SamePlace, TooMany, Twice
from netcourt.nets import Net

NO_NAMES = ("", "z" * 13, "A", "aB", "a1", "7", "a b", " a", "a ", "a-b", "a_b", "a.", "a;", "\u00e4", "a\n")
GREAT = 10 ** 60 - 1


def name_of(number):
    return "pq"[number // 26] + chr(ord("a") + number % 26)


def net_with_places(many):
    net = Net()
    for number in range(many):
        net.place(name_of(number))
    return net


def net_with_ties(many):
    net = Net()
    for number in range(many):
        net.tie(name_of(number), "a", "b", 1, 0)
    return net


def small_net():
    net = Net()
    net.place("m")
    net.tie("one", "a", "b", 3, 4)
    net.tie("two", "b", "m", 5, -6)
    return net


class NetCase(unittest.TestCase):
    def assert_refused(self, net, error, deed, *words):
        ahead = (net.places(), net.ties())
        with self.assertRaises(ValueError) as taken:
            getattr(net, deed)(*words)
        self.assertIs(type(taken.exception), error, (deed, words))
        self.assertIsInstance(taken.exception, CourtError)
        self.assertEqual((net.places(), net.ties()), ahead)


class TestPlace(NetCase):
    def test_a_new_net_is_empty(self):
        self.assertEqual(Net().places(), [])
        self.assertEqual(Net().ties(), [])

    def test_places_in_the_order_in_which_they_came(self):
        net = Net()
        for name in ("z", "a", "abcdefghijkl", "m"):
            self.assertIsNone(net.place(name))
        self.assertEqual(net.places(), ["z", "a", "abcdefghijkl", "m"])
        self.assertEqual(net.ties(), [])

    def test_no_name(self):
        net = small_net()
        for word in NO_NAMES:
            self.assert_refused(net, NoName, "place", word)
        net.place("z" * 12)

    def test_twice(self):
        net = small_net()
        for name in ("m", "a", "b"):
            self.assert_refused(net, Twice, "place", name)

    def test_called_as_a_tie_is(self):
        net = small_net()
        net.place("one")
        self.assertEqual(net.places(), ["m", "a", "b", "one"])

    def test_twenty_places(self):
        net = net_with_places(19)
        net.place("last")
        self.assertEqual(len(net.places()), 20)
        self.assert_refused(net, TooMany, "place", "more")

    def test_order_of_refusals(self):
        net = net_with_places(20)
        self.assert_refused(net, NoName, "place", "More")
        self.assert_refused(net, Twice, "place", name_of(0))


class TestTie(NetCase):
    def test_a_tie_makes_its_places_a_first(self):
        net = Net()
        self.assertIsNone(net.tie("t", "z", "a", 1, 0))
        self.assertEqual(net.places(), ["z", "a"])
        self.assertEqual(net.ties(), [("t", "z", "a", 1, 0)])

    def test_places_that_are_there_stay_where_they_are(self):
        net = Net()
        net.place("b")
        net.tie("t", "a", "b", 1, 0)
        net.tie("u", "b", "c", 1, 0)
        net.tie("v", "c", "a", 1, 0)
        self.assertEqual(net.places(), ["b", "a", "c"])
        self.assertEqual([row[0] for row in net.ties()], ["t", "u", "v"])

    def test_called_as_a_place_is(self):
        net = Net()
        net.tie("a", "a", "b", 2, 3)
        net.tie("b", "b", "a", 4, 5)
        self.assertEqual(net.places(), ["a", "b"])
        self.assertEqual(net.ties(), [("a", "a", "b", 2, 3), ("b", "b", "a", 4, 5)])

    def test_two_ties_between_the_same_places(self):
        net = Net()
        net.tie("t", "a", "b", 2, 3)
        net.tie("u", "a", "b", 2, 3)
        self.assertEqual(net.ties(), [("t", "a", "b", 2, 3), ("u", "a", "b", 2, 3)])

    def test_great_numbers_and_costs_of_any_sign(self):
        net = Net()
        costs = (0, 1, -1, GREAT, -GREAT)
        for number, cost in enumerate(costs):
            net.tie(name_of(number), "a", "b", GREAT, cost)
        self.assertEqual([row[3:] for row in net.ties()], [(GREAT, cost) for cost in costs])

    def test_somewhat_beyond_sixty_figures_is_not_refused(self):
        net = Net()
        net.tie("t", "a", "b", GREAT + 1, -GREAT - 1)
        self.assertEqual(net.ties(), [("t", "a", "b", GREAT + 1, -GREAT - 1)])

    def test_no_name(self):
        net = small_net()
        for word in NO_NAMES:
            self.assert_refused(net, NoName, "tie", word, "a", "b", 1, 0)
            self.assert_refused(net, NoName, "tie", "t", word, "b", 1, 0)
            self.assert_refused(net, NoName, "tie", "t", "a", word, 1, 0)
        net.tie("z" * 12, "x" * 12, "y" * 12, 1, 0)

    def test_twice_of_a_tie_alone(self):
        net = small_net()
        self.assert_refused(net, Twice, "tie", "one", "c", "d", 1, 0)
        net.tie("m", "c", "d", 1, 0)

    def test_same_place(self):
        net = small_net()
        self.assert_refused(net, SamePlace, "tie", "t", "a", "a", 1, 0)
        self.assert_refused(net, SamePlace, "tie", "t", "new", "new", 1, 0)

    def test_no_width(self):
        net = small_net()
        for width in (0, -1, -GREAT):
            self.assert_refused(net, NoWidth, "tie", "t", "a", "b", width, 0)
        net.tie("t", "a", "b", 1, 0)

    def test_a_truth_is_no_width(self):
        for width in (True, False):
            self.assert_refused(small_net(), NoWidth, "tie", "t", "a", "b", width, 0)

    def test_forty_ties(self):
        net = net_with_ties(39)
        net.tie("last", "a", "b", 1, 0)
        self.assertEqual(len(net.ties()), 40)
        self.assert_refused(net, TooMany, "tie", "more", "a", "b", 1, 0)
        self.assert_refused(net, TooMany, "tie", "more", "c", "d", 1, 0)
        net.cut("last")
        net.tie("more", "a", "b", 1, 0)
        self.assertEqual(net.ties()[-1][0], "more")

    def test_twenty_places_by_a_tie(self):
        net = net_with_places(18)
        net.tie("t", "x", "y", 1, 0)
        self.assertEqual(net.places()[18:], ["x", "y"])
        self.assert_refused(net, TooMany, "tie", "u", "x", "z", 1, 0)
        self.assert_refused(net, TooMany, "tie", "u", "z", "x", 1, 0)
        self.assert_refused(net, TooMany, "tie", "u", "v", "w", 1, 0)
        net.tie("u", "y", "x", 1, 0)

    def test_one_place_left_and_two_new_ones(self):
        net = net_with_places(19)
        self.assert_refused(net, TooMany, "tie", "t", "x", "y", 1, 0)
        net.tie("t", name_of(0), "y", 1, 0)
        self.assertEqual(net.places()[19:], ["y"])

    def test_one_place_left_for_the_beginning(self):
        net = net_with_places(19)
        net.tie("t", "x", name_of(0), 1, 0)
        self.assertEqual(net.places()[19:], ["x"])


class TestOrderOfATiesRefusals(NetCase):
    def setUp(self):
        self.net = net_with_places(20)
        for number in range(40):
            self.net.tie(name_of(number), "pa", "pb", 1, 0)

    def test_a_name_ahead_of_all(self):
        self.assert_refused(self.net, NoName, "tie", "A", "pa", "pa", 0, 0)
        self.assert_refused(self.net, NoName, "tie", "pa", "A", "A", 0, 0)
        self.assert_refused(self.net, NoName, "tie", "pa", "pb", "B", 0, 0)

    def test_twice_ahead_of_the_others(self):
        self.assert_refused(self.net, Twice, "tie", "pa", "x", "x", 0, 0)
        self.assert_refused(self.net, Twice, "tie", "pa", "x", "y", 0, 0)
        self.assert_refused(self.net, Twice, "tie", "pa", "x", "y", 1, 0)

    def test_same_place_ahead_of_width_and_bounds(self):
        self.assert_refused(self.net, SamePlace, "tie", "t", "x", "x", 0, 0)
        self.assert_refused(self.net, SamePlace, "tie", "t", "x", "x", 1, 0)

    def test_width_ahead_of_bounds(self):
        self.assert_refused(self.net, NoWidth, "tie", "t", "x", "y", 0, 0)
        self.assert_refused(self.net, TooMany, "tie", "t", "x", "y", 1, 0)


class TestCutAndAlter(NetCase):
    def test_cut_leaves_the_places(self):
        net = small_net()
        self.assertIsNone(net.cut("one"))
        self.assertEqual(net.places(), ["m", "a", "b"])
        self.assertEqual(net.ties(), [("two", "b", "m", 5, -6)])

    def test_cut_and_laid_again_stands_last(self):
        net = small_net()
        net.cut("one")
        net.tie("one", "b", "a", 7, 8)
        self.assertEqual(net.ties(), [("two", "b", "m", 5, -6), ("one", "b", "a", 7, 8)])

    def test_cut_refuses_what_is_no_tie(self):
        net = small_net()
        for word in ("three", "a", "m", "ONE") + NO_NAMES:
            self.assert_refused(net, NoTie, "cut", word)
        net.cut("one")
        self.assert_refused(net, NoTie, "cut", "one")

    def test_alter_keeps_the_tie_at_its_place(self):
        net = small_net()
        self.assertIsNone(net.alter("one", GREAT, -GREAT))
        self.assertEqual(net.ties(), [("one", "a", "b", GREAT, -GREAT), ("two", "b", "m", 5, -6)])
        self.assertEqual(net.places(), ["m", "a", "b"])

    def test_alter_refuses_what_is_no_tie(self):
        net = small_net()
        for word in ("three", "a", "m", "ONE") + NO_NAMES:
            self.assert_refused(net, NoTie, "alter", word, 1, 0)

    def test_alter_refuses_a_width_below_one(self):
        net = small_net()
        for width in (0, -1, -GREAT, False, True):
            self.assert_refused(net, NoWidth, "alter", "one", width, 0)
        net.alter("one", 1, 0)
        self.assertEqual(net.ties()[0], ("one", "a", "b", 1, 0))

    def test_alter_refuses_the_name_ahead_of_the_width(self):
        self.assert_refused(small_net(), NoTie, "alter", "three", 0, 0)

    def test_alter_and_cut_in_a_full_net(self):
        net = net_with_ties(40)
        net.alter(name_of(39), 2, 2)
        net.cut(name_of(0))
        self.assertEqual(net.ties()[-1], (name_of(39), "a", "b", 2, 2))
        self.assertEqual(len(net.ties()), 39)


class TestWhatIsTold(NetCase):
    def test_the_kinds(self):
        net = small_net()
        self.assertIs(type(net.places()), list)
        self.assertIs(type(net.ties()), list)
        for row in net.ties():
            self.assertIs(type(row), tuple)

    def test_told_lists_are_the_askers_own(self):
        net = small_net()
        places, ties = net.places(), net.ties()
        places.append("x")
        places.reverse()
        ties.clear()
        self.assertEqual(net.places(), ["m", "a", "b"])
        self.assertEqual(net.ties(), [("one", "a", "b", 3, 4), ("two", "b", "m", 5, -6)])
        net.place("x")
        net.tie("three", "x", "m", 1, 1)

    def test_later_deeds_change_no_told_list(self):
        net = small_net()
        places, ties = net.places(), net.ties()
        net.place("x")
        net.tie("three", "y", "z", 1, 1)
        net.alter("one", 9, 9)
        net.cut("two")
        self.assertEqual(places, ["m", "a", "b"])
        self.assertEqual(ties, [("one", "a", "b", 3, 4), ("two", "b", "m", 5, -6)])

    def test_two_nets_share_nothing(self):
        one, other = Net(), Net()
        one.tie("t", "a", "b", 1, 0)
        self.assertEqual((other.places(), other.ties()), ([], []))
        other.tie("t", "c", "d", 2, 2)
        self.assertEqual(one.ties(), [("t", "a", "b", 1, 0)])


class TestTwin(NetCase):
    def test_a_twin_is_another_net_that_is_alike(self):
        for net in (Net(), small_net(), net_with_places(20), net_with_ties(40)):
            twin = net.twin()
            self.assertIsInstance(twin, Net)
            self.assertIsNot(twin, net)
            self.assertEqual(twin.places(), net.places())
            self.assertEqual(twin.ties(), net.ties())

    def test_each_goes_its_own_way(self):
        for swapped in (False, True):
            net = small_net()
            twin = net.twin()
            if swapped:
                net, twin = twin, net
            net.place("x")
            net.tie("three", "y", "z", 1, 1)
            net.alter("one", 9, 9)
            net.cut("two")
            self.assertEqual(twin.places(), ["m", "a", "b"])
            self.assertEqual(twin.ties(), [("one", "a", "b", 3, 4), ("two", "b", "m", 5, -6)])
            twin.place("v")
            twin.cut("one")
            self.assertEqual(net.places(), ["m", "a", "b", "x", "y", "z"])
            self.assertEqual(net.ties(), [("one", "a", "b", 9, 9), ("three", "y", "z", 1, 1)])

    def test_a_twin_refuses_as_its_net_does(self):
        twin = net_with_ties(40).twin()
        self.assert_refused(twin, Twice, "place", "a")
        self.assert_refused(twin, Twice, "tie", name_of(0), "c", "d", 1, 0)
        self.assert_refused(twin, TooMany, "tie", "more", "a", "b", 1, 0)


class Model:
    """A second, slower telling of the net, on plain lists."""

    def __init__(self):
        self.places, self.ties = [], []

    def refusal(self, deed, words):
        tie_names = [row[0] for row in self.ties]
        if deed == "place":
            checks = [(words[0] == "Bad", NoName), (words[0] in self.places, Twice), (len(self.places) == 20, TooMany)]
        elif deed == "tie":
            after = set(self.places) | {words[1], words[2]}
            checks = [("Bad" in words[:3], NoName), (words[0] in tie_names, Twice), (words[1] == words[2], SamePlace),
                      (words[3] < 1, NoWidth), (len(tie_names) == 40 or len(after) > 20, TooMany)]
        else:
            checks = [(words[0] not in tie_names, NoTie), (deed == "alter" and words[1] < 1, NoWidth)]
        return ([error for wrong, error in checks if wrong] + [None])[0]

    def carry_out(self, deed, words):
        if deed == "place":
            self.places.append(words[0])
        elif deed == "tie":
            self.places += [place for place in words[1:3] if place not in self.places]
            self.ties.append(tuple(words))
        elif deed == "cut":
            self.ties = [row for row in self.ties if row[0] != words[0]]
        else:
            self.ties = [row[:3] + tuple(words[1:]) if row[0] == words[0] else row for row in self.ties]


def some_deed(chance, names):
    deed = chance.choice(["place", "tie", "tie", "tie", "cut", "alter"])
    word = [chance.choice(names) for number in range(3)]
    numbers = [chance.choice([-1, 0, 1, 2, 3, GREAT]), chance.choice([-GREAT, -1, 0, 1, GREAT])]
    return deed, {"place": word[:1], "tie": word + numbers, "cut": word[:1], "alter": word[:1] + numbers}[deed]


class TestManyDeeds(NetCase):
    def test_rows_of_deeds(self):
        chance = random.Random(4)
        for many in (2, 5, 22, 45, 52):
            names = [name_of(number) for number in range(many)] + ["Bad"]
            net, model = Net(), Model()
            for number in range(600):
                deed, words = some_deed(chance, names)
                error = model.refusal(deed, words)
                if error is not None:
                    self.assert_refused(net, error, deed, *words)
                else:
                    self.assertIsNone(getattr(net, deed)(*words))
                    model.carry_out(deed, words)
                self.assertEqual((net.places(), net.ties()), (model.places, model.ties))


if __name__ == "__main__":
    unittest.main()
