"""The refusals: each stands straight under JoinError."""


class JoinError(ValueError):
    """What every refusal of this package is."""


class BadName(JoinError):
    """A thing at a place of a list is no NAME, or was there ahead."""

    def __init__(self, place):
        JoinError.__init__(self, f"no new name at place {place}")
        self.place = place


class BadRow(JoinError):
    """A row of a text isn't written as it should be."""

    def __init__(self, row):
        JoinError.__init__(self, f"row {row} is not written as it should be")
        self.row = row


class Clash(JoinError):
    """Steps clash; the field is the pair of a name and a ring from it."""

    def __init__(self, ring):
        JoinError.__init__(self, "the steps of a ring do not come to nought")
        self.ring = ring


class NoName(JoinError):
    """A name isn't there."""


class NoJoin(JoinError):
    """No joining of that number stands."""


class NoMoment(JoinError):
    """There is no such moment."""
