"""What several tests need: nets, things that are no papers, a slow court, and papers with one thing wrong."""

import random

from netcourt.nets import Net

GREAT = 10 ** 60 - 1
# What the interface's words and point 6 keep from being taken for an empty list, a name or a number.
NO_PAPERS = (None, True, False, (), ("t",), (1,), ((),), {}, {"t": 1})
ODD_PARTS = NO_PAPERS + ("", "zz", "T", "t ", 0, 1, -1, GREAT, [], [[]], ["t"], ["zz"], [1], [None], [True], [()],
                         [["a", 0]], [["a", True]], [[], []], [[], 1])


def name_of(number):
    return "pq"[number // 26] + chr(ord("a") + number % 26)


def net_of(places, *ties):
    """Places by a text of one-letter names; each tie as (name, a, b, cost)."""
    net = Net()
    for place in places:
        net.place(place)
    for name, a, b, cost in ties:
        net.tie(name, a, b, 1, cost)
    return net


def all_of(net):
    return (net.places(), net.ties())


def chance_net(chance, places, ties, costs, widths=(1,)):
    net = Net()
    for number in range(places):
        net.place(name_of(number))
    for number in range(ties if places > 1 else 0):
        a, b = chance.sample(net.places(), 2)
        net.tie(name_of(number), a, b, chance.choice(widths), chance.choice(costs))
    return net


def named_nets():
    """Nets at the edges, small enough that each claim of each can be asked."""
    return [
        net_of(""),
        net_of("a"),
        net_of("ab"),
        net_of("abc", ("t", "a", "b", 1), ("u", "b", "c", 2)),
        net_of("ab", ("t", "a", "b", 5), ("u", "a", "b", 3), ("v", "a", "b", 4)),
        net_of("ab", ("t", "a", "b", 3), ("u", "b", "a", -2)),
        net_of("ab", ("t", "a", "b", 3), ("u", "b", "a", -3)),
        net_of("ab", ("t", "a", "b", 3), ("u", "b", "a", -4)),
        net_of("ab", ("a", "a", "b", 0), ("b", "b", "a", 0)),
        net_of("abcd", ("t", "a", "b", -2), ("u", "b", "c", -3), ("v", "a", "c", -4), ("w", "c", "d", -1)),
        net_of("abcde", ("t", "a", "b", 7), ("u", "b", "c", 1), ("v", "c", "d", 1), ("w", "d", "b", -3),
               ("x", "c", "e", 9)),
        net_of("abcd", ("t", "a", "b", 7), ("u", "a", "c", 1), ("v", "c", "d", 1), ("w", "d", "c", -2)),
        net_of("abcd", ("t", "c", "a", 1), ("u", "d", "c", 1), ("v", "c", "d", -2), ("w", "a", "b", 2)),
        net_of("abc", ("t", "a", "b", GREAT), ("u", "b", "c", -GREAT), ("v", "c", "a", -1)),
        net_of("abc", ("t", "a", "b", GREAT), ("u", "b", "c", GREAT), ("v", "a", "c", 2 * GREAT)),
    ]


def chance_nets(seed, many):
    chance = random.Random(seed)
    nets = []
    for number in range(many):
        costs = chance.choice([range(0, 9), range(-1, 9), range(-3, 4), (GREAT, -GREAT, 1, -1, 0), (0,)])
        nets.append(chance_net(chance, chance.randint(2, 6), chance.randint(0, 10), costs))
    return nets


def full_nets():
    """Twenty places and forty ties."""
    chance = random.Random(20)
    spread = [chance.randint(-GREAT, GREAT) for number in range(20)]
    return [chance_net(chance, 20, 40, costs) for costs in (range(9), range(-1, 9), range(-9, 1), (GREAT,), (-GREAT,),
                                                            spread, [abs(cost) for cost in spread], (0,))]


# The slow court: it knows what is true by counting the cheapest walks of each number of ties up to that of the places.

def cheapest_walks(net, a, shut=None):
    rows = [{a: 0}]
    for number in net.places():
        further = {}
        for name, begin, end, width, cost in net.ties():
            if begin in rows[-1] and end != shut:
                further[end] = min(further.get(end, rows[-1][begin] + cost), rows[-1][begin] + cost)
        rows.append(further)
    return rows


def least_costs(net, a):
    least = {}
    for row in cheapest_walks(net, a):
        least.update({place: min(row[place], least.get(place, row[place])) for place in row})
    return least


def is_on_ring_below(net, place):
    return any(row.get(place, 0) < 0 for row in cheapest_walks(net, place))


def slow_truth(net, claim):
    if claim[0] == "way":
        return claim[2] in least_costs(net, claim[1])
    if claim[0] == "ring":
        return any(is_on_ring_below(net, place) for place in net.places())
    if claim[0] == "round":
        return any(place in row for place in net.places() for row in cheapest_walks(net, place)[1:])
    if claim[0] == "must":
        return claim[1] == claim[3] or not any(claim[2] in row for row in cheapest_walks(net, claim[1], claim[3]))
    costs = least_costs(net, claim[1])
    endless = any(is_on_ring_below(net, place) and claim[2] in least_costs(net, place) for place in costs)
    return claim[2] in costs and (endless or costs[claim[2]] <= claim[3])


def plain_claims(net):
    claims = [("ring",), ("round",)]
    for a in net.places():
        for b in net.places():
            claims.append(("way", a, b))
            claims += [("must", a, b, x) for x in net.places()]
            claims += [("cost", a, b, k) for k in edge_costs(net, a, b)]
    return claims


def edge_costs(net, a, b):
    least = least_costs(net, a).get(b, 0)
    return sorted({least - 1, least, least + 1, 0, -GREAT, GREAT})


def slow_members(net, kind):
    if kind[0] == "all":
        return net.places()
    if kind[0] == "these":
        return [place for place in net.places() if place in kind[1]]
    claims = [("way", kind[1], place) if kind[0] == "from" else ("way", place, kind[1]) for place in net.places()]
    return [place for place, claim in zip(net.places(), claims) if slow_truth(net, claim)]


def kinds_of(net):
    places = net.places()
    kinds = [("all",), ("these", []), ("these", list(places)), ("these", places[::-1]),
             ("these", places[:2] + places[:1])]
    return kinds + [(word, place) for word in ("from", "to") for place in places]


# The slow looker: whatever is of another shape than asked for trips over one of its steps, and is no such paper.

class Wrong(Exception):
    pass


def ask(truth):
    if not truth:
        raise Wrong


def listed(thing, kind=None, many=None):
    ask(type(thing) is list and many in (None, len(thing)))
    ask(kind is None or all(type(part) is kind for part in thing))
    return thing


def unlike_places(net, thing):
    ask(set(listed(thing, str)) <= set(net.places()) and len(set(thing)) == len(thing))
    return set(thing)


def stops_of(net, a, thing):
    ends = {name: (begin, end) for name, begin, end, width, cost in net.ties()}
    stops = [a]
    for name in listed(thing, str):
        ask(name in ends and ends[name][0] == stops[-1])
        stops.append(ends[name][1])
    return stops


def cost_of(net, thing):
    return sum(cost * thing.count(name) for name, begin, end, width, cost in net.ties())


def priced(net, thing):
    for row in listed(thing, list):
        ask(len(row) == 2 and type(row[1]) is int)
    unlike_places(net, [row[0] for row in thing])
    return dict(thing)


def slow_for(net, claim, paper):
    if claim[0] == "way":
        ask(stops_of(net, claim[1], paper)[-1] == claim[2])
    elif claim[0] in ("ring", "round"):
        begins = [row[1] for row in net.ties() if [row[0]] == listed(paper, str)[:1]]
        ask(begins and stops_of(net, begins[0], paper)[-1] == begins[0])
        ask(claim[0] == "round" or cost_of(net, paper) < 0)
    elif claim[0] == "must":
        inside = unlike_places(net, paper)
        ask(not inside & {claim[2], claim[3]} and claim[1] in inside | {claim[3]})
        ask(all(row[2] in inside | {claim[3]} for row in net.ties() if row[1] in inside))
    else:
        here, cost = claim[1], 0
        for walk, times in [listed(stretch, many=2) for stretch in listed(paper)]:
            ask(type(times) is int and times >= 1)
            stops = stops_of(net, here, walk)
            ask(times == 1 or stops[-1] == here)
            here, cost = stops[-1], cost + times * cost_of(net, walk)
        ask(here == claim[2] and cost <= claim[3])


def slow_against(net, claim, paper):
    if claim[0] == "way":
        inside = unlike_places(net, paper)
        ask(claim[1] in inside and claim[2] not in inside)
        ask(all(row[2] in inside for row in net.ties() if row[1] in inside))
    elif claim[0] == "ring":
        prices = priced(net, paper)
        ask(set(prices) == set(net.places()))
        ask(all(prices[row[2]] <= prices[row[1]] + row[4] for row in net.ties()))
    elif claim[0] == "round":
        ask(unlike_places(net, paper) == set(net.places()))
        ask(all(row[2] in paper[paper.index(row[1]):] for row in net.ties()))
    elif claim[0] == "must":
        stops = stops_of(net, claim[1], paper)
        ask(stops[-1] == claim[2] and claim[3] not in stops)
    else:
        slow_no_cost(net, claim, listed(paper, many=2))


def slow_no_cost(net, claim, paper):
    prices, dead = priced(net, paper[0]), unlike_places(net, paper[1])
    ask(not dead & set(prices) and claim[1] in dead | set(prices) and claim[2] not in dead)
    for name, begin, end, width, cost in net.ties():
        ask(begin not in dead or end in dead)
        ask(begin not in prices or end in dead or end in prices and prices[end] <= prices[begin] + cost)
    ask(not {claim[1], claim[2]} <= set(prices) or prices[claim[2]] > prices[claim[1]] + claim[3])


def slow_look(net, claim, so, paper):
    try:
        slow_for(net, claim, paper) if so else slow_against(net, claim, paper)
    except Wrong:
        return False
    return True


# What a told paper is made of.

def spoil(thing):
    """Changes every list of a told paper."""
    if type(thing) is list:
        for part in list(thing):
            spoil(part)
        thing.reverse()
        thing.append("spoilt")


def lists_in(thing):
    if type(thing) is not list:
        return []
    return [thing] + [inner for part in thing for inner in lists_in(part)]


def figures(thing):
    if type(thing) is int:
        return len(str(abs(thing)))
    return max([figures(part) for part in thing], default=0) if type(thing) is list else 0


# Papers with one thing wrong (or only otherwise): at each place of a paper, one part changed.

def changed_papers(paper, names):
    yield from changed_parts(paper, names)
    if type(paper) is list:
        for at, part in enumerate(paper):
            yield paper[:at] + paper[at + 1:]
            yield paper[:at] + [part, part] + paper[at + 1:]
            yield paper[:at] + paper[at + 1:] + [part]
            for name in names[:3]:
                yield paper[:at] + [name] + paper[at:]
            for other in changed_papers(part, names):
                yield paper[:at] + [other] + paper[at + 1:]


def changed_parts(part, names):
    yield from ODD_PARTS
    yield [part]
    if type(part) is list:
        yield tuple(part)
        yield part[::-1]
        for name in names:
            yield part + [name]
            yield part + [[name, 0]]
    elif type(part) is str:
        yield from names
    elif type(part) is int:
        yield from (part - 1, part + 1, -part, str(part))
