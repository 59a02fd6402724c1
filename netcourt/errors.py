"""The refusals of the court, each by a class of its own."""


# The one class by which any refusal can be taken.
class CourtError(ValueError):
    pass


class NoName(CourtError):
    pass


class Twice(CourtError):
    pass


class SamePlace(CourtError):
    pass


class NoWidth(CourtError):
    pass


class NoTie(CourtError):
    pass


class TooMany(CourtError):
    pass


class NoText(CourtError):
    pass


# Keeps the name itself, as an asker should not have to pick it out of the words.
class NoPlace(CourtError):
    def __init__(self, name):
        CourtError.__init__(self, f"no place is called {name!r}")
        self.name = name


class NoClaim(CourtError):
    pass


class NoLine(CourtError):
    pass
