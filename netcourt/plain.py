"""The looker at papers for and against plain claims: it goes along the paper and the net, and seeks nothing."""

from netcourt.papers import are_unlike_places, is_pair, is_place, walk_cost, walk_end, walk_stops
from netcourt.sets import is_within
from netcourt.words import is_whole


def look_plain(net, claim, so, paper):
    if claim[0] == "way":
        return shows_way(net, claim, paper) if so else shows_no_way(net, claim, paper)
    if claim[0] == "cost":
        return shows_cost(net, claim, paper) if so else shows_no_cost(net, claim, paper)
    if claim[0] == "ring":
        return shows_ring(net, paper) if so else shows_no_ring(net, paper)
    if claim[0] == "round":
        return shows_round(net, paper) if so else shows_no_round(net, paper)
    return shows_must(net, claim, paper) if so else shows_no_must(net, claim, paper)


def shows_way(net, claim, paper):
    return walk_end(net, claim[1], paper) == claim[2]


# A list that all places lie within to which a walk leads from a is just one with a that no tie leaves.
def shows_no_way(net, claim, paper):
    return is_within(net, ("from", claim[1]), paper) and claim[2] not in paper


def shows_cost(net, claim, paper):
    if not isinstance(paper, list):
        return False
    here = claim[1]
    cost = 0
    for stretch in paper:
        end = stretch_end(net, here, stretch)
        if end is None:
            return False
        cost += walk_cost(net, stretch[0]) * stretch[1]
        here = end
    return here == claim[2] and cost <= claim[3]


# None where it is no stretch that can be walked from here so many times.
def stretch_end(net, here, stretch):
    if not is_pair(stretch) or not is_whole(stretch[1]) or stretch[1] < 1:
        return None
    end = walk_end(net, here, stretch[0])
    if stretch[1] > 1 and end != here:
        return None
    return end


def shows_no_cost(net, claim, paper):
    if not is_pair(paper):
        return False
    prices = prices_of(net, paper[0])
    dead = paper[1]
    if prices is None or not are_unlike_places(net, dead) or any([place in prices for place in dead]):
        return False
    if claim[1] not in prices and claim[1] not in dead:
        return False
    return claim[2] not in dead and ties_keep_prices(net, prices, dead) and is_priced_above(prices, claim)


# The numbers by the places; None where it is no list of [place, number] of unlike places.
def prices_of(net, paper):
    if not isinstance(paper, list):
        return None
    prices = {}
    for row in paper:
        if not is_pair(row) or not is_place(net, row[0]) or not is_whole(row[1]) or row[0] in prices:
            return None
        prices[row[0]] = row[1]
    return prices


def ties_keep_prices(net, prices, dead):
    for name, begin, end, width, cost in net.ties():
        if begin in dead and end not in dead:
            return False
        if begin in prices and end not in dead:
            if end not in prices or prices[end] > prices[begin] + cost:
                return False
    return True


# Where one of both has no price, that the ties keep the prices shows already that no walk leads from a to b.
def is_priced_above(prices, claim):
    if claim[1] not in prices or claim[2] not in prices:
        return True
    return prices[claim[2]] > prices[claim[1]] + claim[3]


def shows_ring(net, paper):
    return shows_round(net, paper) and walk_cost(net, paper) < 0


def shows_no_ring(net, paper):
    prices = prices_of(net, paper)
    return prices is not None and len(prices) == len(net.places()) and ties_keep_prices(net, prices, [])


def shows_round(net, paper):
    if not isinstance(paper, list) or paper == []:
        return False
    begins = [row[1] for row in net.ties() if row[0] == paper[0]]
    return begins != [] and walk_end(net, begins[0], paper) == begins[0]


def shows_no_round(net, paper):
    if not is_within(net, ("all",), paper):
        return False
    return all([paper.index(row[1]) < paper.index(row[2]) for row in net.ties()])


def shows_must(net, claim, paper):
    a = claim[1]
    x = claim[3]
    if not are_unlike_places(net, paper) or x in paper or claim[2] in paper:
        return False
    if a != x and a not in paper:
        return False
    return all([row[2] in paper or row[2] == x for row in net.ties() if row[1] in paper])


def shows_no_must(net, claim, paper):
    stops = walk_stops(net, claim[1], paper)
    return stops is not None and stops[-1] == claim[2] and claim[3] not in stops
