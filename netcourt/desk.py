"""A desk: it keeps a book, is told lines and answers each."""

from netcourt.book import Book
from netcourt.bounds_found import value_of
from netcourt.claim_texts import read_claim, read_term, show_claim
from netcourt.claims import find_claim, look_at_claim, look_at_term, look_claim
from netcourt.errors import NoLine, NoText
from netcourt.net_texts import show_net
from netcourt.papers import read_paper, show_paper
from netcourt.words import read_number

MOST_FIGURES = 60
# What stands behind the first word of each line that is made of words alone.
LINE_FORMS = {
    "place": ("name",),
    "tie": ("name", "name", "name", "number", "number"),
    "cut": ("name",),
    "alter": ("name", "number", "number"),
    "forget": ("name",),
    "net": (),
    "claims": (),
    "claim": ("name",),
    "verdict": ("name",),
    "paper": ("name",),
}


# A line as the list of its first word and of what is told behind it. All of it is read ahead of anything done, so that
# a line that is none is refused so, whatever else would be.
def read_line(line):
    try:
        return read_parts(line)
    except NoText:
        raise NoLine(f"{line!r} is no line") from None


def read_parts(line):
    parted = line.partition(" ")
    if parted[0] == "state":
        return read_state(parted[2])
    if parted[0] == "look":
        return read_look(parted[2])
    if parted[0] == "ask":
        return ["ask", read_claim(parted[2])]
    if parted[0] == "value":
        return ["value", read_term(parted[2])]
    return read_words(line.split(" "))


# Where there is no such colon, the claim's text is empty, and so is none.
def read_state(rest):
    parted = rest.partition(": ")
    return ["state", read_part("name", parted[0]), read_claim(parted[2])]


def read_look(rest):
    parted = rest.partition(": ")
    side = parted[0].partition(" ")
    if side[0] != "so" and side[0] != "not":
        raise NoText("neither for nor against")
    return ["look", side[0] == "so", read_paper(side[2]), read_claim(parted[2])]


def read_words(words):
    if words[0] not in LINE_FORMS or len(words) != len(LINE_FORMS[words[0]]) + 1:
        raise NoText("no such word, or not so many behind it")
    return words[:1] + [read_part(kind, word) for kind, word in zip(LINE_FORMS[words[0]], words[1:])]


# A name may be any word here: whether it is a name is for the book to say.
def read_part(kind, word):
    if kind == "number":
        return read_number(word, MOST_FIGURES)
    if word == "" or " " in word or ":" in word:
        raise NoText(f"{word!r} is no word")
    return word


def show_changes(changes):
    if changes == []:
        return "still"
    return ", ".join([f"{name} {word}" for name, word in changes])


def show_names(names):
    return "none" if names == [] else " ".join(names)


def show_verdict(so):
    return "so" if so else "not so"


class Desk:
    def __init__(self):
        self.book = Book()

    def say(self, line):
        told = read_line(line)
        if told[0] in ("place", "tie", "cut", "alter"):
            return show_changes(self.change_net(told))
        if told[0] in ("ask", "value", "look"):
            return self.answer_of_net(told)
        if told[0] == "net":
            return show_net(self.book.net())
        if told[0] == "claims":
            return show_names(self.book.claims())
        return self.answer_of_claim(told)

    def change_net(self, told):
        if told[0] == "place":
            return self.book.place(told[1])
        if told[0] == "tie":
            return self.book.tie(told[1], told[2], told[3], told[4], told[5])
        if told[0] == "cut":
            return self.book.cut(told[1])
        return self.book.alter(told[1], told[2], told[3])

    def answer_of_net(self, told):
        net = self.book.net()
        if told[0] == "value":
            look_at_term(net, told[1])
            return str(value_of(net, told[1]))
        claim = told[-1]
        look_at_claim(net, claim)
        if told[0] == "look":
            return "yes" if look_claim(net, claim, told[1], told[2]) else "no"
        found = find_claim(net, claim)
        return show_verdict(found[0]) + " " + show_paper(found[1])

    def answer_of_claim(self, told):
        if told[0] == "state":
            return show_verdict(self.book.state(told[1], told[2]))
        if told[0] == "claim":
            return show_claim(self.book.claim(told[1]))
        if told[0] == "verdict":
            return show_verdict(self.book.verdict(told[1]))
        if told[0] == "paper":
            return show_paper(self.book.paper(told[1]))
        self.book.forget(told[1])
        return "ok"
