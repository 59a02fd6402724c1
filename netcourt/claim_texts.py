"""The texts of claims, terms and sets, and the claim or term of a text."""

from netcourt.errors import NoText
from netcourt.words import is_name, is_variable, read_number

MOST_DEEP = 12
MOST_FIGURES = 60
# Signs that are words by themselves wherever they stand.
LONE_SIGNS = "(){},:"
SET_WORDS = ("all", "from", "to", "these")
TERM_WORDS = ("number", "size", "flow", "apart", "bare", "pairs", "plus", "least", "most", "times")
# The claims and terms that are written as their word and so many names.
NAMES_BEHIND = {"way": 2, "ring": 0, "round": 0, "must": 3, "flow": 2, "apart": 2, "bare": 2}


def show_claim(claim):
    word = claim[0]
    if word in NAMES_BEHIND:
        return " ".join(claim)
    if word == "cost":
        return " ".join(claim[:3]) + " <= " + str(claim[3])
    if word == "atmost":
        return show_term(claim[1]) + " <= " + show_term(claim[2])
    if word == "not":
        return "not " + show_claim(claim[1])
    if word == "and" or word == "or":
        first = show_claim(claim[1])
        second = show_claim(claim[2])
        return f"({first} {word} {second})"
    variable = claim[1]
    kind = show_set(claim[2])
    within = show_claim(claim[3])
    return f"{word} {variable} in {kind}: {within}"


def show_term(term):
    word = term[0]
    if word == "number":
        return str(term[1])
    if word == "size" or word == "pairs":
        return " ".join([word] + [show_set(kind) for kind in term[1:]])
    if word in NAMES_BEHIND:
        return " ".join(term)
    if word == "times":
        return str(term[1]) + " * " + show_term(term[2])
    first = show_term(term[1])
    second = show_term(term[2])
    return f"({first} + {second})" if word == "plus" else f"{word}({first}, {second})"


def show_set(kind):
    if kind[0] == "these":
        return "{" + ", ".join(kind[1]) + "}"
    return " ".join(kind)


def read_claim(text):
    claim = read_whole_claim(WordRow(split_text(text)), MOST_DEEP)
    refuse_other_text(claim, show_claim(claim), text)
    return claim


def read_term(text):
    term = read_whole_term(WordRow(split_text(text)), MOST_DEEP)
    refuse_other_text(term, show_term(term), text)
    return term


# What was read is shown again and held against the text: that finds any blank too much or too few.
def refuse_other_text(whole, shown, text):
    if shown != text:
        raise NoText(f"{text!r} would be written {shown!r}")
    if depth_of(whole) > MOST_DEEP:
        raise NoText(f"more than {MOST_DEEP} deep")


def split_text(text):
    spread = text
    for sign in LONE_SIGNS:
        spread = spread.replace(sign, f" {sign} ")
    return [word for word in spread.split(" ") if word != ""]


def depth_of(whole):
    within = [part for part in whole[1:] if isinstance(part, tuple) and part[0] not in SET_WORDS]
    return 1 + max([depth_of(part) for part in within], default=0)


# The words of a text, taken one by one.
class WordRow:
    def __init__(self, words):
        self.words = words
        self.taken = 0

    # The empty text, which is no word, behind the last one.
    def coming(self):
        return self.words[self.taken] if self.taken < len(self.words) else ""

    def take(self):
        word = self.coming()
        self.taken += 1
        return word

    def pass_over(self, word):
        if self.take() != word:
            raise NoText(f"{word!r} is missing")


def read_whole_claim(row, room):
    whole = read_whole(row, room)
    if is_term(whole):
        raise NoText("a term where a claim is asked for")
    return whole


def read_whole_term(row, room):
    whole = read_first(row, room)
    if not is_term(whole):
        raise NoText("a claim where a term is asked for")
    return whole


def is_term(whole):
    return whole[0] in TERM_WORDS


# A claim or a term: which of both a bracket opens is known only behind what stands first in it.
def read_whole(row, room):
    first = read_first(row, room)
    if not is_term(first) or row.coming() != "<=":
        return first
    row.take()
    return ("atmost", first, read_whole_term(row, room))


# The room is how much deeper a text may go: so no text makes calls without end. That a comparison is one deeper than
# its terms isn't reckoned in it, but by depth_of.
def read_first(row, room):
    if room == 0:
        raise NoText(f"more than {MOST_DEEP} deep")
    word = row.take()
    if word in NAMES_BEHIND:
        return (word,) + tuple([read_name(row) for number in range(NAMES_BEHIND[word])])
    if word == "cost":
        return read_cost(row)
    if word == "not":
        return (word, read_whole_claim(row, room - 1))
    if word == "each" or word == "some":
        return read_over_places(row, room, word)
    if word == "size":
        return (word, read_set(row))
    if word == "pairs":
        return (word, read_set(row), read_set(row))
    if word == "least" or word == "most":
        return read_of_two(row, room, word)
    if word == "(":
        return read_bracket(row, room)
    return read_from_number(row, room, word)


def read_name(row):
    word = row.take()
    if not is_name(word) and not is_variable(word):
        raise NoText(f"{word!r} is neither a name nor a variable")
    return word


def read_cost(row):
    a = read_name(row)
    b = read_name(row)
    row.pass_over("<=")
    return ("cost", a, b, read_number(row.take(), MOST_FIGURES))


def read_over_places(row, room, word):
    variable = row.take()
    if not is_variable(variable):
        raise NoText(f"{variable!r} is no variable")
    row.pass_over("in")
    kind = read_set(row)
    row.pass_over(":")
    return (word, variable, kind, read_whole_claim(row, room - 1))


def read_of_two(row, room, word):
    row.pass_over("(")
    first = read_whole_term(row, room - 1)
    row.pass_over(",")
    second = read_whole_term(row, room - 1)
    row.pass_over(")")
    return (word, first, second)


def read_bracket(row, room):
    first = read_whole(row, room - 1)
    word = row.take()
    second = read_whole(row, room - 1)
    row.pass_over(")")
    if word == "+" and is_term(first) and is_term(second):
        return ("plus", first, second)
    if (word == "and" or word == "or") and not is_term(first) and not is_term(second):
        return (word, first, second)
    raise NoText(f"{word!r} between what it doesn't stand between")


def read_from_number(row, room, word):
    number = read_number(word, MOST_FIGURES)
    if row.coming() != "*":
        return ("number", number)
    row.take()
    if number < 0:
        raise NoText(f"{word} times a term")
    return ("times", number, read_whole_term(row, room - 1))


def read_set(row):
    word = row.take()
    if word == "all":
        return (word,)
    if word == "from" or word == "to":
        return (word, read_name(row))
    if word != "{":
        raise NoText(f"{word!r} begins no set")
    return ("these", read_names(row))


def read_names(row):
    names = []
    if row.coming() != "}":
        names.append(read_name(row))
    while row.coming() == ",":
        row.take()
        names.append(read_name(row))
    row.pass_over("}")
    return names
