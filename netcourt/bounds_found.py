"""The finder of the values of terms, and of papers from above and from below that show them."""

from netcourt.bounds import is_shown_by_one, number_of_two, shown_bound
from netcourt.flows import (arcs_of_one, arcs_of_pairs, arcs_of_ties, arcs_through_places, free_ways, greatest_flow,
                            walks_along)
from netcourt.sets import member_paper, members_of, within_paper


def value_of(net, term):
    return find_bound(net, term, True)[0]


def bound_paper(net, term, above):
    return find_bound(net, term, above)[1]


# The value, and a paper that shows it: both at once, so that no term within is reckoned again for each one around it.
def find_bound(net, term, above):
    if term[0] == "times":
        within = find_bound(net, term[2], above)
        return (term[1] * within[0], [within[1]])
    if term[0] in ("plus", "least", "most"):
        return find_of_two(net, term, above)
    paper = paper_of_one(net, term, above)
    return (shown_bound(net, term, above, paper), paper)


def find_of_two(net, term, above):
    first = find_bound(net, term[1], above)
    second = find_bound(net, term[2], above)
    value = number_of_two(term, first[0], second[0])
    if not is_shown_by_one(term, above):
        return (value, [first[1], second[1]])
    return (value, [1, first[1]] if first[0] == value else [2, second[1]])


def paper_of_one(net, term, above):
    if term[0] == "number":
        return []
    if term[0] == "size":
        return within_paper(net, term[1]) if above else member_rows(net, term[1])
    if term[0] == "pairs":
        return paper_of_pairs(net, term, above)
    if term[1] == term[2]:
        return []
    if term[0] == "flow":
        return paper_of_flow(net, term, above)
    if term[0] == "apart":
        return paper_of_apart(net, term, above)
    return paper_of_bare(net, term, above)


def member_rows(net, kind):
    return [[place, member_paper(net, kind, place)] for place in members_of(net, kind)]


def paper_of_flow(net, term, above):
    arcs = arcs_of_ties(net)
    loads = greatest_flow(arcs, term[1], term[2])
    if above:
        return list(free_ways(arcs, loads, term[1]))
    return [[name, loads[name]] for name in loads if loads[name] > 0]


def paper_of_apart(net, term, above):
    arcs = arcs_of_one(net)
    loads = greatest_flow(arcs, term[1], term[2])
    if above:
        return list(free_ways(arcs, loads, term[1]))
    return loaded_walks(net, term, loads)


# The stops are the places that more could come into, but not go out of.
def paper_of_bare(net, term, above):
    arcs = arcs_through_places(net, term[1], term[2])
    begin = (term[1], "out")
    loads = greatest_flow(arcs, begin, (term[2], "in"))
    if not above:
        return loaded_walks(net, term, loads)
    reached = free_ways(arcs, loads, begin)
    side = [place for place in net.places() if (place, "out") in reached]
    stops = [place for place in net.places() if (place, "in") in reached and place not in side]
    return [side, stops]


# No tie that leads into a bears anything here, as no way along which a flow is added comes back to its beginning.
def loaded_walks(net, term, loads):
    ties = [row for row in net.ties() if loads[row[0]] > 0]
    out_of_a = [row for row in ties if row[1] == term[1]]
    return walks_along(ties, term[1], term[2], len(out_of_a))


def paper_of_pairs(net, term, above):
    begins = members_of(net, term[1])
    ends = members_of(net, term[2])
    arcs = arcs_of_pairs(net, begins, ends)
    loads = greatest_flow(arcs, "first", "last")
    if not above:
        return paired_rows(net, term, loads)
    reached = free_ways(arcs, loads, "first")
    left = [place for place in begins if (place, "begin") not in reached]
    right = [place for place in ends if (place, "end") in reached]
    return [within_paper(net, term[1]), within_paper(net, term[2]), left, right]


def paired_rows(net, term, loads):
    ties = [row for row in net.ties() if loads[row[0]] > 0]
    return [[row[0], member_paper(net, term[1], row[1]), member_paper(net, term[2], row[2])] for row in ties]


# None where the paper is none from below for the flow, or is of wider ties.
def walks_of_flow(net, a, b, paper):
    shown = shown_bound(net, ("flow", a, b), False, paper)
    if shown is None or any([number > 1 for name, number in paper]):
        return None
    names = [name for name, number in paper]
    return walks_along([row for row in net.ties() if row[0] in names], a, b, shown)
