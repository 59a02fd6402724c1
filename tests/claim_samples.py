"""What the tests of claims need: claims of all kinds, a slow court for them, and a slow looker at their papers."""

import copy
import random
import unittest

from netcourt.claims import find_claim, look_claim
from samples import (GREAT, Wrong, all_of, ask, chance_net, figures, kinds_of, listed, lists_in, net_of, slow_against,
                     slow_for, slow_members, slow_truth)
from term_samples import chance_term, slow_bound, slow_member, slow_value, slow_within

ALL = ("all",)
CLAIM_WORDS = ("way", "cost", "ring", "round", "must", "atmost", "not", "and", "or", "each", "some")
# Few enough that one is often told again within itself.
VARIABLES = ("X", "Y", "XY", "ABC")


class Names:
    """Stands for a net where only its places' names are asked for: variables may be among them."""

    def __init__(self, names):
        self.names = names

    def places(self):
        return list(self.names)


# Claims by chance.

def chance_claim(chance, names, deep, words=CLAIM_WORDS):
    """Just so deep where the first of two is gone into, at most so deep elsewhere."""
    if deep == 1:
        return chance_plain(chance, names)
    word = chance.choice([word for word in words if word in CLAIM_WORDS[5:]])
    if word == "atmost":
        terms = [chance_term(chance, Names(names), deep - 1), chance_term(chance, Names(names), min(2, deep - 1))]
        return (word,) + tuple(chance.sample(terms, 2))
    if word == "not":
        return (word, chance_claim(chance, names, deep - 1, words))
    if word in ("and", "or"):
        claims = [chance_claim(chance, names, deep - 1, words), chance_claim(chance, names, min(2, deep - 1), words)]
        return (word,) + tuple(chance.sample(claims, 2))
    variable = chance.choice(VARIABLES)
    kind = chance.choice(kinds_of(Names(names)))
    further = [name for name in names if name != variable]
    further += [variable] * max(1, len(further))
    return (word, variable, kind, chance_claim(chance, further, deep - 1, words))


def chance_plain(chance, names):
    word = chance.choice(CLAIM_WORDS[:5] if names else ("ring", "round"))
    many = {"way": 2, "cost": 2, "must": 3}.get(word, 0)
    claim = (word,) + tuple(chance.choice(names) for number in range(many))
    return claim + (chance.choice([0, 1, -1, 3, GREAT, -GREAT]),) if word == "cost" else claim


# Each "each" or "some" within another makes papers so many times longer.
FEW_PLACES = ("atmost", "not", "and", "or")


def chance_deep_claim(chance, names, deep):
    """Of many steps deep, only some of which are for each or some place."""
    if deep <= 4:
        return chance_claim(chance, names, deep)
    inner = chance_deep_claim(chance, names, deep - 1)
    word = chance.choice(("not", "and", "or"))
    if word == "not":
        return (word, inner)
    return (word,) + tuple(chance.sample([inner, chance_claim(chance, names, 2, FEW_PLACES)], 2))


def small_nets(seed, many):
    chance = random.Random(seed)
    nets = []
    for number in range(many):
        costs = chance.choice([range(0, 5), range(-1, 5), range(-3, 4), (GREAT, -GREAT, 0)])
        widths = chance.choice([(1,), range(1, 4), (1, GREAT)])
        nets.append(chance_net(chance, chance.randint(2, 4), chance.randint(0, 7), costs, widths))
    return nets


def sample_claims():
    """Each kind of claim, term and set once at least, of the places of SAMPLE_NET."""
    flow = ("flow", "a", "b")
    return [
        ("way", "a", "b"), ("way", "c", "a"), ("cost", "a", "c", 3), ("cost", "a", "c", 2), ("ring",), ("round",),
        ("must", "a", "c", "b"), ("must", "a", "b", "c"),
        ("atmost", flow, ("apart", "a", "b")), ("atmost", ("bare", "a", "c"), ("size", ALL)),
        ("atmost", ("pairs", ALL, ("to", "c")), ("times", 2, ("number", 1))),
        ("atmost", ("plus", flow, ("number", -2)), ("least", flow, ("most", ("number", 0), ("number", 9)))),
        ("not", ("way", "a", "b")), ("and", ("ring",), ("round",)), ("or", ("way", "a", "b"), ("ring",)),
        ("each", "X", ("from", "a"), ("way", "a", "X")), ("each", "X", ALL, ("way", "X", "c")),
        ("some", "X", ALL, ("must", "a", "c", "X")), ("some", "X", ("these", ["c", "d"]), ("way", "X", "a")),
        ("each", "X", ("these", []), ("ring",)), ("some", "X", ("these", []), ("not", ("ring",))),
        ("each", "X", ALL, ("some", "Y", ("to", "X"), ("atmost", ("flow", "Y", "X"), ("size", ("from", "Y"))))),
        ("each", "X", ("these", ["a", "b"]), ("each", "X", ("from", "X"), ("way", "X", "c"))),
    ]


SAMPLE_NET = net_of("abcd", ("t", "a", "b", 1), ("u", "b", "c", 2), ("v", "a", "b", 4))


# The slow court: what is told of variables goes along in a dict, and is put in at the plain claims, terms and sets.

def with_told(thing, told):
    if type(thing) is tuple:
        return thing[:1] + tuple(with_told(part, told) for part in thing[1:])
    if type(thing) is list:
        return [with_told(part, told) for part in thing]
    return told.get(thing, thing) if type(thing) is str else thing


def slow_claim_truth(net, claim, told=()):
    told = dict(told)
    word = claim[0]
    if word == "atmost":
        first, second = [slow_value(net, with_told(term, told)) for term in claim[1:]]
        return first <= second
    if word == "not":
        return not slow_claim_truth(net, claim[1], told)
    if word in ("and", "or"):
        return {"and": all, "or": any}[word]([slow_claim_truth(net, part, told) for part in claim[1:]])
    if word in ("each", "some"):
        places = slow_members(net, with_told(claim[2], told))
        truths = [slow_claim_truth(net, claim[3], {**told, claim[1]: place}) for place in places]
        return {"each": all, "some": any}[word](truths)
    return slow_truth(net, with_told(claim, told))


def slow_claim_paper(net, claim, so, paper, told):
    word = claim[0]
    if word == "not":
        slow_claim_paper(net, claim[1], not so, paper, told)
    elif word == "atmost":
        shown = [slow_bound(net, with_told(term, told), above, part)
                 for term, above, part in zip(claim[1:], (so, not so), listed(paper, many=2))]
        ask(shown[0] <= shown[1] if so else shown[0] > shown[1])
    elif (word, so) in (("and", True), ("or", False)):
        for part, other in zip(claim[1:], listed(paper, many=2)):
            slow_claim_paper(net, part, so, other, told)
    elif word in ("and", "or"):
        ask(type(listed(paper, many=2)[0]) is int and paper[0] in (1, 2))
        slow_claim_paper(net, claim[paper[0]], so, paper[1], told)
    elif (word, so) in (("each", True), ("some", False)):
        inside = slow_within(net, with_told(claim[2], told), listed(paper, many=2)[0])
        rows = [listed(row, many=2) for row in listed(paper[1])]
        ask(all(type(row[0]) is str for row in rows) and sorted(row[0] for row in rows) == sorted(inside))
        for place, other in rows:
            slow_claim_paper(net, claim[3], so, other, {**told, claim[1]: place})
    elif word in ("each", "some"):
        slow_member(net, with_told(claim[2], told), *listed(paper, many=3)[:2])
        slow_claim_paper(net, claim[3], so, paper[2], {**told, claim[1]: paper[0]})
    else:
        (slow_for if so else slow_against)(net, with_told(claim, told), paper)


def slow_claim_look(net, claim, so, paper):
    try:
        slow_claim_paper(net, claim, so, paper, {})
    except Wrong:
        return False
    return True


def words_in(thing):
    """The first words of a claim and of all that is put together in it."""
    if type(thing) is not tuple:
        return set()
    return {thing[0]}.union(*[words_in(part) for part in thing[1:]])


def lists_within(thing):
    """All lists in a claim or in a paper, however deep."""
    if type(thing) not in (list, tuple):
        return []
    return ([thing] if type(thing) is list else []) + [inner for part in thing for inner in lists_within(part)]


def depth_in(paper):
    return 1 + max([depth_in(part) for part in paper], default=0) if type(paper) is list else 0


class ClaimCase(unittest.TestCase):
    def assert_look(self, net, claim, so, paper, answer):
        ahead = copy.deepcopy((all_of(net), claim, paper))
        self.assertIs(look_claim(net, claim, so, paper), answer, (all_of(net), claim, so, paper))
        self.assertIs(slow_claim_look(net, claim, so, paper), answer, (all_of(net), claim, so, paper))
        self.assertEqual((all_of(net), claim, paper), ahead)

    def assert_papers(self, net, claim, so, *papers):
        """Papers for (or against) the claim, none of which is one for the other side."""
        self.assertIs(slow_claim_truth(net, claim), so, claim)
        for paper in papers:
            self.assert_look(net, claim, so, paper, True)
            self.assert_look(net, claim, not so, paper, False)

    def assert_no_papers(self, net, claim, *papers):
        for paper in papers:
            self.assert_look(net, claim, True, paper, False)
            self.assert_look(net, claim, False, paper, False)

    def assert_found(self, net, claim, truth=None):
        """With no truth told, only the papers show that the verdict is right."""
        ahead = copy.deepcopy((all_of(net), claim))
        told = find_claim(net, claim)
        self.assertEqual((type(told), len(told)), (tuple, 2))
        truth = told[0] is True if truth is None else truth
        self.assertIs(told[0], truth, (all_of(net), claim))
        self.assertIs(look_claim(net, claim, truth, told[1]), True, (all_of(net), claim, told))
        self.assertIs(slow_claim_look(net, claim, truth, told[1]), True, (all_of(net), claim, told))
        self.assertIs(look_claim(net, claim, not truth, told[1]), False, (all_of(net), claim, told))
        self.assertLessEqual(figures(told[1]), 120)
        self.assertLessEqual(depth_in(told[1]), 60)
        inner = lists_in(told[1])
        self.assertEqual(len({id(part) for part in inner}), len(inner))
        self.assertEqual((all_of(net), claim), ahead)
        return told[1]
