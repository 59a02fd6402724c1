"""Sets of places: what lies in them, and the papers that show it."""

from netcourt.papers import are_unlike_places, is_place, walk_end


# Ties as (name, where it is stepped on, where it is left): for "to" they are gone against their way.
def steps_of(net, word):
    if word == "to":
        return [(row[0], row[2], row[1]) for row in net.ties()]
    return [(row[0], row[1], row[2]) for row in net.ties()]


# For each place to which steps lead from a, the names of the steps, as few as can be, so that no place comes twice.
def steps_to_places(steps, a):
    onward = steps_by_begin(steps)
    found = {a: []}
    waiting = [a]
    while waiting != []:
        here = waiting.pop(0)
        for name, begin, end in onward.get(here, []):
            if end not in found:
                found[end] = found[here] + [name]
                waiting.append(end)
    return found


def steps_by_begin(steps):
    onward = {}
    for step in steps:
        onward.setdefault(step[1], []).append(step)
    return onward


def is_within(net, kind, paper):
    if not are_unlike_places(net, paper):
        return False
    if kind[0] == "all":
        return all([place in paper for place in net.places()])
    if kind[0] == "these":
        return all([place in paper for place in kind[1]])
    return kind[1] in paper and no_step_leaves(steps_of(net, kind[0]), paper)


def no_step_leaves(steps, places):
    return all([end in places for name, begin, end in steps if begin in places])


def is_member(net, kind, place, paper):
    if not is_place(net, place):
        return False
    if kind[0] == "all":
        return paper == []
    if kind[0] == "these":
        return place in kind[1] and paper == []
    if kind[0] == "from":
        return walk_end(net, kind[1], paper) == place
    return walk_end(net, place, paper) == kind[1]


def members_of(net, kind):
    if kind[0] == "all":
        return net.places()
    if kind[0] == "these":
        return [place for place in net.places() if place in kind[1]]
    found = steps_to_places(steps_of(net, kind[0]), kind[1])
    return [place for place in net.places() if place in found]


# The set's own places are the fewest that it lies within.
def within_paper(net, kind):
    return members_of(net, kind)


def member_paper(net, kind, place):
    if place not in members_of(net, kind):
        return None
    if kind[0] == "all" or kind[0] == "these":
        return []
    names = steps_to_places(steps_of(net, kind[0]), kind[1])[place]
    return list(reversed(names)) if kind[0] == "to" else names
