"""What flows, walks that share nothing and pairs are reckoned by: a greatest flow along arcs (name, begin, end, width).

Names, begins and ends of arcs are whatever can be a key of a dict.
"""

from netcourt.sets import steps_to_places

# Wider than what can come to an arc: such an arc is never full, so it is none of those that hold a flow back.
WIDE = 2


# Each addition goes along as few arcs as can be, so how many there are hangs on how many arcs there are, not on widths.
def greatest_flow(arcs, a, b):
    loads = dict([(arc[0], 0) for arc in arcs])
    way = free_ways(arcs, loads, a).get(b)
    while way is not None:
        add_along(loads, way)
        way = free_ways(arcs, loads, a).get(b)
    return loads


# For each end that more could flow to from a, the steps there: of each the arc's name, its sign and its room.
def free_ways(arcs, loads, a):
    steps = []
    for name, begin, end, width in arcs:
        if loads[name] < width:
            steps.append(((name, 1, width - loads[name]), begin, end))
        if loads[name] > 0:
            steps.append(((name, -1, loads[name]), end, begin))
    return steps_to_places(steps, a)


def add_along(loads, way):
    more = min([room for name, sign, room in way])
    for name, sign, room in way:
        loads[name] += sign * more


# Walks from a to b, as many as told, along ties that bear one each of a flow of so much: whoever comes to a place but
# b finds a tie that leads on. What is left over when all are walked, rings and the like, is left alone.
def walks_along(ties, a, b, many):
    unwalked = list(ties)
    walks = []
    for number in range(many):
        walks.append(take_walk(unwalked, a, b))
    return walks


def take_walk(unwalked, a, b):
    walk = []
    here = a
    while here != b:
        onward = [tie for tie in unwalked if tie[1] == here][0]
        unwalked.remove(onward)
        walk.append(onward[0])
        here = onward[2]
    return walk


def arcs_of_ties(net):
    return [(row[0], row[1], row[2], row[3]) for row in net.ties()]


def arcs_of_one(net):
    return [(row[0], row[1], row[2], 1) for row in net.ties()]


# Each place is two, with an arc of 1 from where one comes in to where one goes out, so that one walk at most passes it.
# No way along which a flow is added comes back to a or goes on from b, so these two need no rule of their own.
def arcs_through_places(net, a, b):
    arcs = [((place, "passed"), (place, "in"), (place, "out"), 1) for place in net.places()]
    for name, begin, end, width, cost in net.ties():
        arcs.append((name, (begin, "out"), (end, "in"), 1 if begin == a and end == b else WIDE))
    return arcs


# From "first" through each beginning once, along the ties, and through each end once to "last". Ties that begin or end
# elsewhere can't be come to, or lead nowhere.
def arcs_of_pairs(net, begins, ends):
    arcs = [((place, "begin"), "first", (place, "begin"), 1) for place in begins]
    arcs.extend([(row[0], (row[1], "begin"), (row[2], "end"), WIDE) for row in net.ties()])
    arcs.extend([((place, "end"), (place, "end"), "last", 1) for place in ends])
    return arcs
