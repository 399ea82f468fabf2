"""The refusals: one class for each kind of thing handed in."""


class TieError(ValueError):
    """Something handed in is refused."""


class BadPlaces(TieError):
    """The count of places is no whole number from 1 to 40."""


class BadTies(TieError):
    """The ties are no list of ties of these places."""


class BadMany(TieError):
    """The count of colours is no whole number from 1 on."""
