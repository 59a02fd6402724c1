"""A book: it keeps claims as its net is changed, each with its verdict and a paper that is let by."""

from netcourt.claims import copied, find_claim, look_at_claim, look_claim
from netcourt.errors import NoClaim, Twice
from netcourt.nets import Net, refuse_no_name


class Book:
    # By each name (the claim, its verdict, its paper), in the order in which they were stated.
    def __init__(self):
        self.own_net = Net()
        self.stated = {}

    def place(self, name):
        self.own_net.place(name)
        return self.mend_papers()

    def tie(self, name, a, b, width, cost):
        self.own_net.tie(name, a, b, width, cost)
        return self.mend_papers()

    def cut(self, name):
        self.own_net.cut(name)
        return self.mend_papers()

    def alter(self, name, width, cost):
        self.own_net.alter(name, width, cost)
        return self.mend_papers()

    # A paper that is let by shows its verdict in the net of now, so only where it isn't is one sought.
    def mend_papers(self):
        changes = []
        for name in list(self.stated):
            row = self.stated[name]
            if not look_claim(self.own_net, row[0], row[1], row[2]):
                found = find_claim(self.own_net, row[0])
                self.stated[name] = (row[0], found[0], found[1])
                changes.append((name, "mended" if found[0] == row[1] else "turned"))
        return changes

    # What is kept is a copy, as whoever stated the claim may change the lists in it.
    def state(self, name, claim):
        refuse_no_name(name)
        if name in self.stated:
            raise Twice(f"a claim stands by the name {name}")
        look_at_claim(self.own_net, claim)
        kept = copied(claim)
        found = find_claim(self.own_net, kept)
        self.stated[name] = (kept, found[0], found[1])
        return found[0]

    def forget(self, name):
        self.refuse_no_claim(name)
        self.stated.pop(name)

    def refuse_no_claim(self, name):
        if name not in self.stated:
            raise NoClaim(f"no claim stands by the name {name!r}")

    def net(self):
        return self.own_net.twin()

    def claims(self):
        return list(self.stated)

    def claim(self, name):
        self.refuse_no_claim(name)
        return copied(self.stated[name][0])

    def verdict(self, name):
        self.refuse_no_claim(name)
        return self.stated[name][1]

    def paper(self, name):
        self.refuse_no_claim(name)
        return copied(self.stated[name][2])
