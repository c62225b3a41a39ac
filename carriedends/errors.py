"""The errors of the package: each one keeps what is bad in its attribute `what`."""


class Refused(ValueError):
    """Stands above all other errors of the package."""

    def __init__(self, what):
        self.what = what


class BadSize(Refused):
    """A number of places is out of its bounds."""


class BadWheel(Refused):
    """A wheel is out of its bounds."""


class BadCoats(Refused):
    """A number of coats is out of its bounds, or a coat is none of the web's."""


class BadRule(Refused):
    """A rule is none of the three."""


class BadBundle(Refused):
    """A bundle that is handed in has a wrong form, or the counts come to too much."""


class TooMany(Refused):
    """There are more of some things than the limit lets."""


class BadPlace(Refused):
    """A place, a lot or a tuple of places does not fit."""


class BadDeed(Refused):
    """A deed is not granted."""


class BadRow(Refused):
    """A deed of a run, or a row, does not fit."""


class BadText(Refused):
    """A text is not the one text of a thing."""


class BadLedger(Refused):
    """A thing is no ledger."""


class Unlike(Refused):
    """Two things differ in what they must have in common."""


class NotJoined(Refused):
    """Two things are joined and should not be, or are not and should be."""


class BadPrice(Refused):
    """A price is out of its bounds, or there are not as many as coats."""


class BadCount(Refused):
    """A count is out of its bounds."""


class Wide(Refused):
    """A thing that is handed in is not handy."""


class NothingToUndo(Refused):
    """No deed stands that could be undone."""


class NothingToRedo(Refused):
    """No deed was undone that could be done again."""
