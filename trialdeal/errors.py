"""The refusals of this package.

Their words are fixed: what was refused may be too long to write out.
"""


class DealError(ValueError):
    """Any refusal; made of a text."""


class NoShare(DealError):
    """A thing that is no share, or a reckoning that comes to none."""

    def __init__(self, found):
        DealError.__init__(self, "this is no share")
        self.found = found


class NoNumber(DealError):
    """A thing that is not one of the whole numbers asked for."""

    def __init__(self, found):
        DealError.__init__(self, "this is no such whole number")
        self.found = found


class NoText(DealError):
    """A thing that is no text."""

    def __init__(self, found):
        DealError.__init__(self, "this is no text")
        self.found = found


class NoFolk(DealError):
    """A thing that does not fit the folk."""

    def __init__(self, found):
        DealError.__init__(self, "this does not fit the folk")
        self.found = found


class NoWeights(DealError):
    """A thing that is no list of weights, or too short a one."""

    def __init__(self, found):
        DealError.__init__(self, "these are no weights for this")
        self.found = found


class NoDealing(DealError):
    """A thing that is no dealing."""

    def __init__(self, found):
        DealError.__init__(self, "this is no dealing")
        self.found = found


class NoLevel(DealError):
    """A thing that is no level."""

    def __init__(self, found):
        DealError.__init__(self, "this is no level")
        self.found = found


class NoQuestions(DealError):
    """A thing that is no rows of questions."""

    def __init__(self, found):
        DealError.__init__(self, "these are no questions")
        self.found = found


class NoChoice(DealError):
    """A thing that is none of those to choose from."""

    def __init__(self, found):
        DealError.__init__(self, "this is none to choose from")
        self.found = found


class NoListing(DealError):
    """A thing that is no listing, or no counts of one."""

    def __init__(self, found):
        DealError.__init__(self, "this is no listing")
        self.found = found


class NoTrials(DealError):
    """A thing that is not made of what is asked for."""

    def __init__(self, found):
        DealError.__init__(self, "this is not made of such things")
        self.found = found


class NoRule(DealError):
    """A line, by its number, that tells no rule."""

    def __init__(self, line):
        DealError.__init__(self, "this line tells no rule")
        self.line = line


class NoLine(DealError):
    """A line that is none of those asked for."""

    def __init__(self, line):
        DealError.__init__(self, "this is no such line")
        self.line = line


class NoOutcome(DealError):
    """A place at which no outcome stands."""

    def __init__(self, place):
        DealError.__init__(self, "there is no outcome at this place")
        self.place = place


class NotSure(DealError):
    """A folk whose outcome is not sure."""

    def __init__(self, place):
        DealError.__init__(self, "the outcome at this place is not sure")
        self.place = place


class NoYes(DealError):
    """A place at which neither yes nor no stands."""

    def __init__(self, place):
        DealError.__init__(self, "there is neither yes nor no at this place")
        self.place = place


class NoWorld(DealError):
    """A folk of which a world does not tell two outcomes."""

    def __init__(self, place):
        DealError.__init__(self, "the world tells no two outcomes here")
        self.place = place


class NoPairs(DealError):
    """A block that is not the folk of whole pairs."""

    def __init__(self, block):
        DealError.__init__(self, "this block is not made of whole pairs")
        self.block = block


class NoLooks(DealError):
    """A look that is amiss, or None where all of them are."""

    def __init__(self, look):
        DealError.__init__(self, "this look is amiss")
        self.look = look


class TooMany(DealError):
    """More of something than there may be."""

    def __init__(self, many):
        DealError.__init__(self, "these are too many")
        self.many = many
