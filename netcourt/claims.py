"""Claims put together: their names, variables and contraries, the looker at papers for and against them, the finder.

Names and variables are sought by the kinds of what stands in a claim, a term or a set alike: behind its first word,
each text is a name or a variable, each list holds such, each tuple is a claim, a term or a set within.
"""

from netcourt.bounds import shown_bound
from netcourt.bounds_found import bound_paper, find_bound
from netcourt.errors import NoPlace
from netcourt.papers import are_unlike, is_choice, is_pair, is_row
from netcourt.plain import look_plain
from netcourt.plain_found import find_plain
from netcourt.sets import is_member, is_within, member_paper, members_of

CONTRARY_WORDS = {"and": "or", "or": "and", "each": "some", "some": "each"}


def look_at_claim(net, claim):
    refuse_strangers(net, claim)


def look_at_term(net, term):
    refuse_strangers(net, term)


def refuse_strangers(net, whole):
    places = net.places()
    for name in untold_names(whole, []):
        if name not in places:
            raise NoPlace(name)


# All names in the order in which they stand, and those variables among them that are not told around them.
def untold_names(part, told):
    if isinstance(part, str):
        return [] if part in told else [part]
    if isinstance(part, list):
        return names_of_all(part, told)
    if not isinstance(part, tuple):
        return []
    if tells_variable(part):
        return untold_names(part[2], told) + untold_names(part[3], told + [part[1]])
    return names_of_all(part[1:], told)


def names_of_all(parts, told):
    names = []
    for part in parts:
        names.extend(untold_names(part, told))
    return names


def tells_variable(claim):
    return claim[0] == "each" or claim[0] == "some"


# All lists in what is told are new ones, as those of the claim may be changed by whoever handed it in.
def put_in(claim, variable, place):
    if isinstance(claim, str):
        return place if claim == variable else claim
    if isinstance(claim, list):
        return [put_in(part, variable, place) for part in claim]
    if not isinstance(claim, tuple):
        return claim
    if tells_variable(claim):
        within = copied(claim[3]) if claim[1] == variable else put_in(claim[3], variable, place)
        return (claim[0], claim[1], put_in(claim[2], variable, place), within)
    return (claim[0],) + tuple([put_in(part, variable, place) for part in claim[1:]])


# What is kept or told shares no list with what another holds: claims, terms and sets, and papers as well.
def copied(thing):
    if isinstance(thing, list):
        return [copied(part) for part in thing]
    if isinstance(thing, tuple):
        return tuple([copied(part) for part in thing])
    return thing


def contrary_of(claim):
    if claim[0] == "not":
        return copied(claim[1])
    if claim[0] == "and" or claim[0] == "or":
        return (CONTRARY_WORDS[claim[0]], contrary_of(claim[1]), contrary_of(claim[2]))
    if tells_variable(claim):
        return (CONTRARY_WORDS[claim[0]], claim[1], copied(claim[2]), contrary_of(claim[3]))
    if claim[0] == "atmost":
        return ("atmost", ("plus", copied(claim[2]), ("number", 1)), copied(claim[1]))
    return ("not", copied(claim))


def look_claim(net, claim, so, paper):
    if claim[0] == "atmost":
        return shows_atmost(net, claim, so, paper)
    if claim[0] == "not":
        return look_claim(net, claim[1], not so, paper)
    if claim[0] == "and" or claim[0] == "or":
        return shows_one(net, claim, so, paper) if so == one_is_enough(claim) else shows_both(net, claim, so, paper)
    if tells_variable(claim):
        return shows_place(net, claim, so, paper) if so == one_is_enough(claim) else shows_rows(net, claim, so, paper)
    return look_plain(net, claim, so, paper)


# The verdict that one of both, or one place, is enough for; the other one needs all of them.
def one_is_enough(claim):
    return claim[0] == "or" or claim[0] == "some"


# To show the claim, the first term is bounded from above and the second from below; against it, the other way round.
def shows_atmost(net, claim, so, paper):
    if not is_pair(paper):
        return False
    first = shown_bound(net, claim[1], so, paper[0])
    second = shown_bound(net, claim[2], not so, paper[1])
    return first is not None and second is not None and (first <= second) == so


def shows_one(net, claim, so, paper):
    return is_choice(paper) and look_claim(net, claim[paper[0]], so, paper[1])


def shows_both(net, claim, so, paper):
    if not is_pair(paper):
        return False
    return look_claim(net, claim[1], so, paper[0]) and look_claim(net, claim[2], so, paper[1])


def shows_place(net, claim, so, paper):
    if not is_row(paper, 3) or not is_member(net, claim[2], paper[0], paper[1]):
        return False
    return looks_with(net, claim, so, paper[0], paper[2])


def shows_rows(net, claim, so, paper):
    if not is_pair(paper) or not is_within(net, claim[2], paper[0]) or not has_row_for_each(paper[0], paper[1]):
        return False
    for row in paper[1]:
        if not looks_with(net, claim, so, row[0], row[1]):
            return False
    return True


# Unlike places out of the list, as many as it has, are all of its places.
def has_row_for_each(places, rows):
    if not isinstance(rows, list) or not all([is_pair(row) and row[0] in places for row in rows]):
        return False
    return len(rows) == len(places) and are_unlike([row[0] for row in rows])


def looks_with(net, claim, so, place, paper):
    return look_claim(net, put_in(claim[3], claim[1], place), so, paper)


def find_claim(net, claim):
    if claim[0] == "atmost":
        return find_atmost(net, claim)
    if claim[0] == "not":
        found = find_claim(net, claim[1])
        return (not found[0], found[1])
    if claim[0] == "and" or claim[0] == "or":
        return find_of_two(net, claim)
    if tells_variable(claim):
        return find_over_places(net, claim)
    return find_plain(net, claim)


def find_atmost(net, claim):
    first = find_bound(net, claim[1], True)
    second = find_bound(net, claim[2], False)
    if first[0] <= second[0]:
        return (True, [first[1], second[1]])
    return (False, [bound_paper(net, claim[1], False), bound_paper(net, claim[2], True)])


def find_of_two(net, claim):
    enough = one_is_enough(claim)
    papers = []
    for number in (1, 2):
        found = find_claim(net, claim[number])
        if found[0] == enough:
            return (enough, [number, found[1]])
        papers.append(found[1])
    return (not enough, papers)


# The set's own places are a paper that it lies within them, and of each of them there is one that it is in the set.
def find_over_places(net, claim):
    enough = one_is_enough(claim)
    places = members_of(net, claim[2])
    rows = []
    for place in places:
        found = find_claim(net, put_in(claim[3], claim[1], place))
        if found[0] == enough:
            return (enough, [place, member_paper(net, claim[2], place), found[1]])
        rows.append([place, found[1]])
    return (not enough, [places, rows])
