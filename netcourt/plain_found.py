"""The finder of papers for or against plain claims."""

from netcourt.papers import ties_by_name, walk_cost
from netcourt.sets import member_paper, members_of, steps_of, steps_to_places, within_paper


def find_plain(net, claim):
    if claim[0] == "way":
        return find_way(net, claim)
    if claim[0] == "cost":
        return find_cost(net, claim)
    if claim[0] == "ring":
        return find_ring(net)
    if claim[0] == "round":
        return find_round(net)
    return find_must(net, claim)


def find_way(net, claim):
    walk = member_paper(net, ("from", claim[1]), claim[2])
    if walk is None:
        return (False, within_paper(net, ("from", claim[1])))
    return (True, walk)


def find_must(net, claim):
    a = claim[1]
    x = claim[3]
    if a == x:
        return (True, [])
    steps = [step for step in steps_of(net, "from") if step[2] != x]
    found = steps_to_places(steps, a)
    if claim[2] in found:
        return (False, found[claim[2]])
    return (True, list(found))


def find_round(net):
    for row in net.ties():
        back = member_paper(net, ("from", row[2]), row[1])
        if back is not None:
            return (True, [row[0]] + back)
    return (False, places_in_order(net))


# Where no walk leads back, fewer places can be come to from a tie's end than from its beginning.
def places_in_order(net):
    return sorted(net.places(), key=lambda place: len(members_of(net, ("from", place))), reverse=True)


def find_ring(net):
    prices = dict([(place, 0) for place in net.places()])
    lowered_by = {}
    late = lower_prices(prices, lowered_by, net.ties(), len(prices))
    if late is None:
        return (False, [[place, prices[place]] for place in prices])
    return (True, ring_behind(lowered_by, late))


# Places from which no walk leads to b are dead: a ring below nought there makes no walk from a to b cheaper.
def find_cost(net, claim):
    a = claim[1]
    b = claim[2]
    reached = members_of(net, ("from", a))
    if b not in reached:
        return (False, [[], reached])
    leading = members_of(net, ("to", b))
    alive = [place for place in reached if place in leading]
    dead = [place for place in reached if place not in leading]
    rows = [row for row in net.ties() if row[1] in alive and row[2] in alive]
    prices = {a: 0}
    lowered_by = {}
    late = lower_prices(prices, lowered_by, rows, len(alive))
    if late is not None:
        return (True, stretches_by_ring(net, claim, ring_behind(lowered_by, late)))
    if prices[b] <= claim[3]:
        return (True, [[walk_behind(lowered_by, b), 1]])
    return (False, [[[place, prices[place]] for place in alive], dead])


# Lowers the prices along the ties, and notes of each place the tie that lowered it last. As many rounds as there are
# places are one more than is needed without a ring below nought: what is lowered in the last one is told, else None.
def lower_prices(prices, lowered_by, rows, rounds):
    late = None
    for number in range(rounds):
        late = None
        for row in rows:
            if is_lower(prices, row):
                prices[row[2]] = prices[row[1]] + row[4]
                lowered_by[row[2]] = row
                late = row[2]
    return late


def is_lower(prices, row):
    if row[1] not in prices:
        return False
    return row[2] not in prices or prices[row[1]] + row[4] < prices[row[2]]


# A place that was lowered late has a ring behind it, which is come upon at the latest when each place was passed once.
def ring_behind(lowered_by, late):
    corner = late
    for number in range(len(lowered_by)):
        corner = lowered_by[corner][1]
    ring = [lowered_by[corner][0]]
    here = lowered_by[corner][1]
    while here != corner:
        ring.append(lowered_by[here][0])
        here = lowered_by[here][1]
    return list(reversed(ring))


# Without a ring below nought the place that was priced first is the one that no tie lowered.
def walk_behind(lowered_by, place):
    walk = []
    here = place
    while here in lowered_by:
        walk.append(lowered_by[here][0])
        here = lowered_by[here][1]
    return list(reversed(walk))


def stretches_by_ring(net, claim, ring):
    corner = ties_by_name(net)[ring[0]][1]
    there = member_paper(net, ("from", claim[1]), corner)
    onward = member_paper(net, ("from", corner), claim[2])
    left_over = walk_cost(net, there) + walk_cost(net, onward) - claim[3]
    return [[there, 1], [ring, rounds_to_nought(left_over, walk_cost(net, ring))], [onward, 1]]


# How often a cost below 0 has to be added to bring the other one to 0 or below, and once at least.
def rounds_to_nought(left_over, ring_cost):
    return max(1, -(left_over // ring_cost))
