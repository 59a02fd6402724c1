"""Papers, their texts, and what most papers are made of: pairs, lists of unlike places, walks."""

from netcourt.errors import NoText
from netcourt.words import is_name, is_whole, read_number

MOST_FIGURES = 120
MOST_DEEP = 60


def show_paper(paper):
    if is_whole(paper):
        return str(paper)
    if isinstance(paper, list):
        within = " ".join([show_paper(part) for part in paper])
        return f"[{within}]"
    if is_name(paper):
        return paper
    raise NoText("a paper with anything but numbers, names and lists in it has no text")


# What is read is shown again and held against the text: that finds any blank or bracket too much or too few.
def read_paper(text):
    papers = read_words(split_text(text))
    if len(papers) != 1 or show_paper(papers[0]) != text:
        raise NoText("no paper has this text")
    return papers[0]


def split_text(text):
    words = text.replace("[", " [ ").replace("]", " ] ").split(" ")
    return [word for word in words if word != ""]


# The lists not closed yet are kept in a row, not in calls of calls: a text may open any number of them.
def read_words(words):
    unclosed = [[]]
    for word in words:
        if word == "[":
            unclosed.append([])
        elif word == "]":
            close_last(unclosed)
        else:
            unclosed[-1].append(read_word(word))
        if len(unclosed) > MOST_DEEP + 1:
            raise NoText(f"more than {MOST_DEEP} lists deep")
    return unclosed[0]


def close_last(unclosed):
    if len(unclosed) == 1:
        raise NoText("a bracket too much")
    closed = unclosed.pop()
    unclosed[-1].append(closed)


def read_word(word):
    if is_name(word):
        return word
    return read_number(word, MOST_FIGURES)


def is_row(paper, many):
    return isinstance(paper, list) and len(paper) == many


def is_pair(paper):
    return is_row(paper, 2)


# [1, ...] or [2, ...]: which of two things the paper behind it is for.
def is_choice(paper):
    return is_pair(paper) and is_whole(paper[0]) and 1 <= paper[0] <= 2


# Sought in a list, not in a dict, as whatever anybody hands in can be sought there.
def is_place(net, paper):
    return paper in net.places()


def are_unlike_places(net, paper):
    if not isinstance(paper, list) or not all([is_place(net, part) for part in paper]):
        return False
    return are_unlike(paper)


def are_unlike(names):
    return len(set(names)) == len(names)


def ties_by_name(net):
    return dict([(row[0], row) for row in net.ties()])


# A text first, as a list can't be sought in a dict.
def is_tie(rows, paper):
    return isinstance(paper, str) and paper in rows


# All places that the walk comes to, each as often as it does, a first; None where the paper is no walk from a.
def walk_stops(net, a, paper):
    if not isinstance(paper, list) or not is_place(net, a):
        return None
    rows = ties_by_name(net)
    stops = [a]
    for name in paper:
        if not is_tie(rows, name) or rows[name][1] != stops[-1]:
            return None
        stops.append(rows[name][2])
    return stops


def walk_end(net, a, paper):
    stops = walk_stops(net, a, paper)
    return None if stops is None else stops[-1]


def walk_cost(net, walk):
    rows = ties_by_name(net)
    return sum([rows[name][4] for name in walk])
