"""A net: places by names, and one-way ties between them with widths and costs."""

from netcourt.errors import NoName, NoTie, NoWidth, SamePlace, TooMany, Twice
from netcourt.words import is_name, is_whole

MOST_PLACES = 20
MOST_TIES = 40


def refuse_no_name(word):
    if not is_name(word):
        raise NoName(f"{word!r} is no name")


def refuse_no_width(width):
    if not is_whole(width) or width < 1:
        raise NoWidth(f"{width!r} is no width")


def refuse_more(many, most):
    if many > most:
        raise TooMany(f"{most} are the most")


# Each deed refuses all that it refuses ahead of its first change, so that a refusal leaves the net as it was.
class Net:
    # Both dicts keep the order in which their keys came: of places, and of ties with what they are told as.
    def __init__(self):
        self.standing = {}
        self.laid = {}

    def place(self, name):
        refuse_no_name(name)
        if name in self.standing:
            raise Twice(f"there is a place {name}")
        refuse_more(len(self.standing) + 1, MOST_PLACES)
        self.standing[name] = True

    def tie(self, name, a, b, width, cost):
        for word in (name, a, b):
            refuse_no_name(word)
        if name in self.laid:
            raise Twice(f"there is a tie {name}")
        if a == b:
            raise SamePlace(f"{name} would lead from {a} to itself")
        refuse_no_width(width)
        new_places = [end for end in (a, b) if end not in self.standing]
        refuse_more(len(self.laid) + 1, MOST_TIES)
        refuse_more(len(self.standing) + len(new_places), MOST_PLACES)
        for end in new_places:
            self.standing[end] = True
        self.laid[name] = (name, a, b, width, cost)

    def cut(self, name):
        self.refuse_no_tie(name)
        self.laid.pop(name)

    # A key that is there keeps its place in a dict, and so does the tie.
    def alter(self, name, width, cost):
        self.refuse_no_tie(name)
        refuse_no_width(width)
        row = self.laid[name]
        self.laid[name] = (name, row[1], row[2], width, cost)

    def refuse_no_tie(self, name):
        if name not in self.laid:
            raise NoTie(f"there is no tie {name!r}")

    def places(self):
        return list(self.standing)

    def ties(self):
        return list(self.laid.values())

    def twin(self):
        other = Net()
        other.standing = dict(self.standing)
        other.laid = dict(self.laid)
        return other
