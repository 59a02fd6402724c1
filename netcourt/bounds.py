"""The looker at papers from above and from below: it tells the number that one shows, or None where it is no such."""

from netcourt.papers import (are_unlike, are_unlike_places, is_choice, is_pair, is_row, is_tie, ties_by_name,
                             walk_stops)
from netcourt.sets import is_member, is_within
from netcourt.words import is_whole


def shown_bound(net, term, above, paper):
    if term[0] == "number":
        return term[1] if paper == [] else None
    if term[0] == "size":
        return size_above(net, term, paper) if above else size_below(net, term, paper)
    if term[0] == "pairs":
        return pairs_above(net, term, paper) if above else pairs_below(net, term, paper)
    if term[0] == "times":
        return shown_times(net, term, above, paper)
    if term[0] in ("plus", "least", "most"):
        return shown_of_two(net, term, above, paper)
    if term[1] == term[2]:
        return 0 if paper == [] else None
    return shown_across(net, term, above, paper)


def shown_across(net, term, above, paper):
    if term[0] == "flow":
        return flow_above(net, term, paper) if above else flow_below(net, term, paper)
    if term[0] == "apart":
        return apart_above(net, term, paper) if above else apart_below(net, term, paper)
    return bare_above(net, term, paper) if above else bare_below(net, term, paper)


def size_above(net, term, paper):
    return len(paper) if is_within(net, term[1], paper) else None


def size_below(net, term, paper):
    if not isinstance(paper, list):
        return None
    if not all([is_pair(row) and is_member(net, term[1], row[0], row[1]) for row in paper]):
        return None
    return len(paper) if are_unlike([row[0] for row in paper]) else None


def flow_above(net, term, paper):
    leaving = ties_leaving(net, term, paper)
    return None if leaving is None else sum([row[3] for row in leaving])


def apart_above(net, term, paper):
    leaving = ties_leaving(net, term, paper)
    return None if leaving is None else len(leaving)


# None where the paper is no list of unlike places with a, without b.
def ties_leaving(net, term, paper):
    if not are_unlike_places(net, paper) or term[1] not in paper or term[2] in paper:
        return None
    return [row for row in net.ties() if row[1] in paper and row[2] not in paper]


def flow_below(net, term, paper):
    left_over = what_goes_out(net, paper)
    if left_over is None:
        return None
    between = [place for place in left_over if place != term[1] and place != term[2]]
    if any([left_over[place] != 0 for place in between]):
        return None
    return left_over[term[1]]


# Of each place what goes out of it less what comes into it; None where the paper is no list of loads of unlike ties.
def what_goes_out(net, paper):
    rows = ties_by_name(net)
    if not isinstance(paper, list) or not all([is_load(rows, load) for load in paper]):
        return None
    if not are_unlike([load[0] for load in paper]):
        return None
    left_over = dict([(place, 0) for place in net.places()])
    for name, number in paper:
        left_over[rows[name][1]] += number
        left_over[rows[name][2]] -= number
    return left_over


def is_load(rows, paper):
    if not is_pair(paper) or not is_tie(rows, paper[0]) or not is_whole(paper[1]):
        return False
    return 1 <= paper[1] <= rows[paper[0]][3]


def apart_below(net, term, paper):
    return None if stops_of_walks(net, term, paper) is None else len(paper)


def bare_below(net, term, paper):
    stops = stops_of_walks(net, term, paper)
    if stops is None:
        return None
    between = joined([row[1:-1] for row in stops])
    if term[1] in between or term[2] in between or not are_unlike(between):
        return None
    return len(paper)


# Of each walk the places that it comes to; None where the paper is no list of walks from a to b that share no tie.
# As a and b are two places here, each such walk has a tie.
def stops_of_walks(net, term, paper):
    if not isinstance(paper, list):
        return None
    stops = [walk_stops(net, term[1], walk) for walk in paper]
    if any([row is None or row[-1] != term[2] for row in stops]):
        return None
    return stops if are_unlike(joined(paper)) else None


def joined(lists):
    whole = []
    for part in lists:
        whole.extend(part)
    return whole


# Each tie from a to b leaves side and stops, so that where no other one does, those that do are all from a to b.
def bare_above(net, term, paper):
    if not is_pair(paper) or not all([are_unlike_places(net, part) for part in paper]):
        return None
    side = paper[0]
    stops = paper[1]
    held = side + stops
    if not are_unlike(held) or term[1] not in side or term[2] in held:
        return None
    leaving = [row for row in net.ties() if row[1] in side and row[2] not in held]
    if not all([row[1] == term[1] and row[2] == term[2] for row in leaving]):
        return None
    return len(stops) + len(leaving)


def pairs_below(net, term, paper):
    rows = ties_by_name(net)
    if not isinstance(paper, list) or not all([is_paired(net, term, rows, part) for part in paper]):
        return None
    begins = [rows[part[0]][1] for part in paper]
    ends = [rows[part[0]][2] for part in paper]
    return len(paper) if are_unlike(begins) and are_unlike(ends) else None


def is_paired(net, term, rows, paper):
    if not is_row(paper, 3) or not is_tie(rows, paper[0]):
        return False
    row = rows[paper[0]]
    return is_member(net, term[1], row[1], paper[1]) and is_member(net, term[2], row[2], paper[2])


def pairs_above(net, term, paper):
    if not is_row(paper, 4) or not is_within(net, term[1], paper[0]) or not is_within(net, term[2], paper[1]):
        return None
    left = paper[2]
    right = paper[3]
    if not are_unlike_places(net, left) or not are_unlike_places(net, right):
        return None
    across = [row for row in net.ties() if row[1] in paper[0] and row[2] in paper[1]]
    if not all([row[1] in left or row[2] in right for row in across]):
        return None
    return len(left) + len(right)


def shown_times(net, term, above, paper):
    if not is_row(paper, 1):
        return None
    shown = shown_bound(net, term[2], above, paper[0])
    return None if shown is None else term[1] * shown


def shown_of_two(net, term, above, paper):
    if is_shown_by_one(term, above):
        return shown_bound(net, term[paper[0]], above, paper[1]) if is_choice(paper) else None
    if not is_pair(paper):
        return None
    first = shown_bound(net, term[1], above, paper[0])
    second = shown_bound(net, term[2], above, paper[1])
    return None if first is None or second is None else number_of_two(term, first, second)


# One of both is enough to show that the lesser is no more, or that the greater is no less.
def is_shown_by_one(term, above):
    return term[0] == ("least" if above else "most")


def number_of_two(term, first, second):
    if term[0] == "plus":
        return first + second
    return min(first, second) if term[0] == "least" else max(first, second)
