"""The errors of the program."""


class ThrowError(ValueError):
    """The base class of all errors of the program."""


class Clash(ThrowError):
    """A hand throws another number of things than it has, at the beat with the index."""

    def __init__(self, index, hand):
        super().__init__(f"clash at the index {index} and the hand {hand}")
        self.index = index
        self.hand = hand


class NoBridge(ThrowError):
    """There is no such bridge."""


class NoPlace(ThrowError):
    """There is no such place."""


class NotPlain(ThrowError):
    """The heights are not plain."""


class BadText(ThrowError):
    """The text does not stand for heights."""
