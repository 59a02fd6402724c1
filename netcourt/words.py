"""What a name is, what a variable is, what a whole number is, and how a number is read from its text."""

from netcourt.errors import NoText

SMALL_LETTERS = "abcdefghijklmnopqrstuvwxyz"
GREAT_LETTERS = "ABCDEFGHIJKLMNOPQRSTUVWXYZ"
FIGURES = "0123456789"
LONGEST_NAME = 12
LONGEST_VARIABLE = 3


def is_made_of(text, signs):
    return all([sign in signs for sign in text])


def is_name(word):
    if not isinstance(word, str):
        return False
    return 1 <= len(word) <= LONGEST_NAME and is_made_of(word, SMALL_LETTERS)


def is_variable(word):
    return 1 <= len(word) <= LONGEST_VARIABLE and is_made_of(word, GREAT_LETTERS)


# Python counts True and False among its ints; here they are no whole numbers.
def is_whole(thing):
    return isinstance(thing, int) and not isinstance(thing, bool)


# The signs are looked at one by one, as int() takes blanks, "+" and "_" too.
def read_number(text, most_figures):
    figures = text[1:] if text.startswith("-") else text
    if not 1 <= len(figures) <= most_figures or not is_made_of(figures, FIGURES):
        raise NoText(f"{text!r} is no number")
    if figures.startswith("0") and text != "0":
        raise NoText(f"{text!r} has a 0 ahead, or is 0 with a sign")
    return int(text)
