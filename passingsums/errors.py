"""The errors that the package raises.

Each error says fixed words, because what it was made of may be any value,
also one that is very long when it is written out.
"""


class SumsError(ValueError):
    """Every error of this package is one of these."""


class Unfit(SumsError):
    """What was handed in does not fit what was asked."""


class BadText(SumsError):
    """The text is the text of no book."""


class Breaks(SumsError):
    """There is no paper: the weaving shows why."""

    def __init__(self, weaving):
        SumsError.__init__(self, "there is no paper, as a weaving shows")
        self.weaving = weaving


class NoBreak(SumsError):
    """Nothing breaks what was asked about."""


class Impossible(SumsError):
    """The record has no placing: greed fails at the block."""

    def __init__(self, block):
        SumsError.__init__(self, "the record has no placing")
        self.block = block


class NoReader(SumsError):
    """No reader has the number that was given."""

    def __init__(self, given):
        SumsError.__init__(self, "no reader has this number")
        self.given = given


class BadEntry(SumsError):
    """The log can't be done from the entry at the place on."""

    def __init__(self, place):
        SumsError.__init__(self, "an entry of the log can't be done")
        self.place = place


class TooMany(SumsError):
    """There are as many as the limit lets there be."""

    def __init__(self, limit):
        SumsError.__init__(self, "there are as many as there may be")
        self.limit = limit
