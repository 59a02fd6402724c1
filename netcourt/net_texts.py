"""A net's text, and the net of a text."""

from netcourt.errors import CourtError, NoText
from netcourt.nets import Net
from netcourt.words import read_number

BETWEEN_ROWS = "; "
MOST_FIGURES = 60


def show_net(net):
    place_rows = [f"place {name}" for name in net.places()]
    tie_rows = [f"tie {name} {a} {b} {width} {cost}" for name, a, b, width, cost in net.ties()]
    return BETWEEN_ROWS.join(place_rows + tie_rows)


def read_net(text):
    net = Net()
    if text == "":
        return net
    for row in text.split(BETWEEN_ROWS):
        read_row(net, row)
    return net


# What the net's own deeds refuse stands in no net's text, so every refusal comes out as NoText.
def read_row(net, row):
    try:
        lay_row(net, row.split(" "))
    except CourtError:
        raise NoText(f"{row!r} stands in no net's text there") from None


def lay_row(net, words):
    if words[0] == "place" and len(words) == 2:
        lay_place(net, words[1])
    elif words[0] == "tie" and len(words) == 6:
        lay_tie(net, words)
    else:
        raise NoText("neither a place nor a tie")


def lay_place(net, name):
    if net.ties() != []:
        raise NoText("a place behind a tie")
    net.place(name)


# A tie by itself would make its places, but a net's text tells all places ahead of the ties.
def lay_tie(net, words):
    told = net.places()
    if words[2] not in told or words[3] not in told:
        raise NoText("a tie's end that no row told")
    width = read_number(words[4], MOST_FIGURES)
    cost = read_number(words[5], MOST_FIGURES)
    net.tie(words[1], words[2], words[3], width, cost)
