"""What the tests of terms need: nets with widths, terms, values found by trying all, and a slow looker of its own."""

import copy
import itertools
import random
import unittest

from netcourt.bounds import shown_bound
from netcourt.nets import Net
from samples import (GREAT, Wrong, all_of, ask, chance_net, kinds_of, listed, name_of, named_nets, slow_members,
                     stops_of, unlike_places)


def wide_net(places, *ties):
    """Places by a text of one-letter names; each tie as (name, a, b, width)."""
    net = Net()
    for place in places:
        net.place(place)
    for name, a, b, width in ties:
        net.tie(name, a, b, width, 1)
    return net


def chance_wide_net(chance, places, ties, widths):
    return chance_net(chance, places, ties, range(-9, 10), widths)


def chance_wide_nets(seed, many):
    chance = random.Random(seed)
    nets = []
    for number in range(many):
        widths = chance.choice([(1,), range(1, 4), range(1, 4), (1, GREAT), (GREAT, GREAT - 1, 10 ** 59)])
        nets.append(chance_wide_net(chance, chance.randint(2, 6), chance.randint(0, 10), widths))
    return nets


def full_wide_nets():
    """Twenty places and forty ties, some of them most unlike in how far they lead."""
    chance = random.Random(41)
    spread = [chance.randint(1, GREAT) for number in range(20)]
    nets = [chance_wide_net(chance, 20, 40, widths) for widths in ((1,), range(1, 9), (GREAT,), spread)]
    nets += [chance_wide_net(chance, places, 40, spread) for places in (2, 3, 6, 9, 12)]
    return nets + [ladder(widths) for widths in ((1,), spread)]


def ladder(widths):
    """Two lines of ten places side by side, with rungs there and back."""
    chance = random.Random(42)
    net = Net()
    rows = [[name_of(number) for number in range(10)], [name_of(number) for number in range(10, 20)]]
    joints = [(row[at], row[at + 1]) for row in rows for at in range(9)]
    joints += list(zip(*rows)) + list(zip(*rows[::-1]))
    for number, (a, b) in enumerate(joints):
        net.tie(name_of(number), a, b, chance.choice(widths), 0)
    return net


def edge_nets():
    """Small nets at the edges, with widths of their own."""
    return named_nets() + [
        wide_net("ab", ("t", "a", "b", 1), ("u", "a", "b", GREAT), ("v", "b", "a", 3)),
        wide_net("abc", ("t", "a", "b", 2), ("u", "b", "c", 3), ("v", "a", "c", 4), ("w", "c", "a", 5),
                 ("x", "a", "c", 1)),
        wide_net("abcd", ("t", "a", "b", GREAT), ("u", "a", "c", GREAT), ("v", "b", "c", 1), ("w", "b", "d", GREAT),
                 ("x", "c", "d", GREAT)),
        wide_net("abcdef", ("t", "a", "b", 1), ("u", "a", "c", 1), ("v", "b", "d", 1), ("w", "c", "d", 1),
                 ("x", "d", "e", 1), ("y", "d", "f", 1), ("z", "e", "f", 1)),
        wide_net("abcde", ("t", "a", "c", 2), ("u", "b", "c", 2), ("v", "c", "d", 2), ("w", "c", "e", 2)),
        wide_net("abcdef", ("t", "a", "d", 2), ("u", "a", "e", 1), ("v", "b", "d", 1), ("w", "c", "e", 2),
                 ("x", "c", "f", 1), ("y", "b", "f", 7), ("z", "d", "a", 1)),
    ]


# Terms.

def across_terms(net):
    return [(word, a, b) for word in ("flow", "apart", "bare") for a in net.places() for b in net.places()]


def set_terms(net, chance, many):
    kinds = kinds_of(net)
    pairs = [("pairs", s, t) for s in kinds for t in kinds]
    return [("size", kind) for kind in kinds] + chance.sample(pairs, min(many, len(pairs)))


def chance_term(chance, net, deep):
    """Just so deep where the first of two is gone into, at most so deep elsewhere."""
    if deep == 1:
        return plain_term(chance, net)
    word = chance.choice(["plus", "least", "most", "times"])
    first = chance_term(chance, net, deep - 1)
    if word == "times":
        return (word, chance.choice([0, 1, 2, 3, GREAT]), first)
    return (word,) + tuple(chance.sample([first, chance_term(chance, net, chance.randint(1, min(3, deep - 1)))], 2))


def plain_term(chance, net):
    word = chance.choice(["number", "size", "flow", "apart", "bare", "pairs"] if net.places() else ["number", "size"])
    if word == "number":
        return (word, chance.choice([0, 1, -1, 2, -2, GREAT, -GREAT]))
    if word == "size":
        return (word, chance.choice(kinds_of(net)))
    if word == "pairs":
        return (word, chance.choice(kinds_of(net)), chance.choice(kinds_of(net)))
    return (word, chance.choice(net.places()), chance.choice(net.places()))


# Values, found by trying all: only for small nets.

def least_cut(net, a, b):
    others = [place for place in net.places() if place not in (a, b)]
    sides = [{a, *more} for many in range(len(others) + 1) for more in itertools.combinations(others, many)]
    return min(sum(row[3] for row in net.ties() if row[1] in side and row[2] not in side) for side in sides)


def greatest_of_all_flows(net, a, b):
    best = 0
    for loads in itertools.product(*[range(row[3] + 1) for row in net.ties()]):
        out = dict.fromkeys(net.places(), 0)
        for row, load in zip(net.ties(), loads):
            out[row[1]] += load
            out[row[2]] -= load
        if all(out[place] == 0 for place in out if place not in (a, b)):
            best = max(best, out[a])
    return best


def simple_walks(net, a, b, stops=()):
    """The ties and the places between of each walk that comes to no place twice, as a set."""
    if a == b:
        yield set()
        return
    for row in net.ties():
        if row[1] == a and row[2] not in stops + (a,):
            for further in simple_walks(net, row[2], b, stops + (a,)):
                yield further | {("tie", row[0])} | ({("place", row[2])} if row[2] != b else set())


def most_unlike(rows):
    """How many of these sets there can be of which no two have a thing in common."""
    if not rows:
        return 0
    others = [row for row in rows[1:] if not row & rows[0]]
    return 1 + most_unlike(others) if len(others) == len(rows) - 1 else max(1 + most_unlike(others),
                                                                             most_unlike(rows[1:]))


def slow_value(net, term):
    word = term[0]
    if word == "number":
        return term[1]
    if word == "size":
        return len(slow_members(net, term[1]))
    if word == "times":
        return term[1] * slow_value(net, term[2])
    if word in ("plus", "least", "most"):
        return {"plus": sum, "least": min, "most": max}[word]([slow_value(net, term[1]), slow_value(net, term[2])])
    if word == "pairs":
        begins, ends = slow_members(net, term[1]), slow_members(net, term[2])
        return most_unlike([{("begin", row[1]), ("end", row[2])} for row in net.ties()
                            if row[1] in begins and row[2] in ends])
    if term[1] == term[2]:
        return 0
    if word == "flow":
        return least_cut(net, term[1], term[2])
    walks = list(simple_walks(net, term[1], term[2]))
    return most_unlike([{thing for thing in walk if word == "bare" or thing[0] == "tie"} for walk in walks])


# The slow looker: what is of another shape than asked for trips over one of its steps.

def slow_within(net, kind, thing):
    inside = unlike_places(net, thing)
    if kind[0] in ("all", "these"):
        ask(set(net.places() if kind[0] == "all" else kind[1]) <= inside)
    else:
        ask(kind[1] in inside)
        for name, begin, end, width, cost in net.ties():
            ask(end in inside or begin not in inside if kind[0] == "from" else begin in inside or end not in inside)
    return inside


def slow_member(net, kind, place, thing):
    ask(type(place) is str and place in net.places())
    if kind[0] in ("all", "these"):
        ask(listed(thing) == [] and (kind[0] == "all" or place in kind[1]))
    elif kind[0] == "from":
        ask(stops_of(net, kind[1], thing)[-1] == place)
    else:
        ask(stops_of(net, place, thing)[-1] == kind[1])


def slow_walks(net, term, paper):
    stops = [stops_of(net, term[1], walk) for walk in listed(paper, list)]
    ask(all(row[-1] == term[2] for row in stops))
    names = [name for walk in paper for name in walk]
    ask(len(set(names)) == len(names))
    if term[0] == "bare":
        held = [place for row in stops for place in row[1:-1]]
        ask(len(set(held)) == len(held) and not {term[1], term[2]} & set(held))
    return len(paper)


def slow_flow(net, term, paper):
    ties = {row[0]: row for row in net.ties()}
    out = dict.fromkeys(net.places(), 0)
    for row in listed(paper, list):
        ask(len(row) == 2 and type(row[0]) is str and type(row[1]) is int)
        ask(row[0] in ties and 1 <= row[1] <= ties[row[0]][3])
        out[ties.pop(row[0])[1]] += row[1]
    for name, number in paper:
        out[next(row[2] for row in net.ties() if row[0] == name)] -= number
    ask(not any(out[place] for place in out if place not in (term[1], term[2])))
    return out[term[1]]


def slow_side(net, term, paper):
    inside = unlike_places(net, paper)
    ask(term[1] in inside and term[2] not in inside)
    return sum(row[3] if term[0] == "flow" else 1 for row in net.ties() if row[1] in inside and row[2] not in inside)


def slow_stops(net, term, paper):
    side, stops = [unlike_places(net, part) for part in listed(paper, many=2)]
    ask(not side & stops and term[1] in side and term[2] not in side | stops)
    for row in net.ties():
        ask(row[1] not in side or row[2] in side | stops or row[1:3] == term[1:])
    return len(stops) + sum(row[1:3] == term[1:] for row in net.ties())


def slow_across(net, term, above, paper):
    if term[1] == term[2]:
        ask(listed(paper) == [])
        return 0
    if above:
        return slow_stops(net, term, paper) if term[0] == "bare" else slow_side(net, term, paper)
    return slow_flow(net, term, paper) if term[0] == "flow" else slow_walks(net, term, paper)


def slow_sets(net, term, above, paper):
    if term[0] == "size" and above:
        return len(slow_within(net, term[1], paper))
    if above:
        s, t = [slow_within(net, kind, part) for kind, part in zip(term[1:], listed(paper, many=4))]
        left, right = [unlike_places(net, part) for part in paper[2:]]
        ask(all(row[1] in left or row[2] in right for row in net.ties() if row[1] in s and row[2] in t))
        return len(left) + len(right)
    if term[0] == "size":
        for row in listed(paper, list):
            slow_member(net, term[1], *listed(row, many=2))
        unlike_places(net, [row[0] for row in paper])
        return len(paper)
    ties = {row[0]: row for row in net.ties()}
    for row in listed(paper, list):
        ask(len(row) == 3 and type(row[0]) is str and row[0] in ties)
        slow_member(net, term[1], ties[row[0]][1], row[1])
        slow_member(net, term[2], ties[row[0]][2], row[2])
    unlike_places(net, [ties[row[0]][1] for row in paper])
    unlike_places(net, [ties[row[0]][2] for row in paper])
    return len(paper)


def slow_bound(net, term, above, paper):
    word = term[0]
    if word == "number":
        ask(listed(paper) == [])
        return term[1]
    if word == "times":
        return term[1] * slow_bound(net, term[2], above, listed(paper, many=1)[0])
    if (word, above) in (("least", True), ("most", False)):
        ask(listed(paper, many=2) and type(paper[0]) is int and paper[0] in (1, 2))
        return slow_bound(net, term[paper[0]], above, paper[1])
    if word in ("plus", "least", "most"):
        shown = [slow_bound(net, part, above, other) for part, other in zip(term[1:], listed(paper, many=2))]
        return {"plus": sum, "least": min, "most": max}[word](shown)
    if word in ("size", "pairs"):
        return slow_sets(net, term, above, paper)
    return slow_across(net, term, above, paper)


def slow_shown(net, term, above, paper):
    try:
        return slow_bound(net, term, above, paper)
    except Wrong:
        return None


class BoundCase(unittest.TestCase):
    def assert_shown(self, net, term, above, paper, number):
        ahead = (all_of(net), copy.deepcopy(term), copy.deepcopy(paper))
        told = shown_bound(net, term, above, paper)
        self.assertEqual((told, type(told)), (number, type(number)), (term, above, paper))
        self.assertEqual(slow_shown(net, term, above, paper), number, (term, above, paper))
        self.assertEqual((all_of(net), term, paper), ahead)
        return told

    def assert_sound(self, net, term, above, paper, number):
        told = self.assert_shown(net, term, above, paper, number)
        if told is not None:
            value = slow_value(net, term)
            self.assertTrue(told >= value if above else told <= value, (all_of(net), term, above, paper))

    def assert_above(self, net, term, *rows):
        for number, paper in rows:
            self.assert_sound(net, term, True, paper, number)

    def assert_below(self, net, term, *rows):
        for number, paper in rows:
            self.assert_sound(net, term, False, paper, number)

    def assert_none_above(self, net, term, *papers):
        for paper in papers:
            self.assert_shown(net, term, True, paper, None)

    def assert_none_below(self, net, term, *papers):
        for paper in papers:
            self.assert_shown(net, term, False, paper, None)
