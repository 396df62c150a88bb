"""The refusals of the program.

Their messages are fixed: a field may hold a whole number of any size, and
Python refuses to write out a number of very many figures.
"""


class RoadError(ValueError):
    """What all refusals but NoWalker stand right under; made of a text."""


class NoBook(RoadError):
    """A thing that is no book, or a book that does not fit another."""

    def __init__(self, word, at):
        RoadError.__init__(self, "no such book")
        self.word = word
        self.at = at


class NoRow(RoadError):
    """A thing that is no row of walkers by a book."""

    def __init__(self, word, at):
        RoadError.__init__(self, "no such row")
        self.word = word
        self.at = at


class NoPassing(RoadError):
    """A letter of a word at which the two walkers cannot pass."""

    def __init__(self, at):
        RoadError.__init__(self, "no passing there")
        self.at = at


class NoOrder(RoadError):
    """A place at which an order is not what is due."""

    def __init__(self, at):
        RoadError.__init__(self, "no such order")
        self.at = at


class NoMove(RoadError):
    """A move of a word that cannot be done."""

    def __init__(self, at):
        RoadError.__init__(self, "no such move")
        self.at = at


class NoSpots(RoadError):
    """A thing that is no spots of the walkers."""

    def __init__(self, at):
        RoadError.__init__(self, "no such spots")
        self.at = at


class NoSpot(RoadError):
    """A spot at which no walker can be put."""

    def __init__(self, spot):
        RoadError.__init__(self, "no such spot")
        self.spot = spot


class NoWay(RoadError):
    """Two kinds whose table cannot be gone back by."""

    def __init__(self, u, v):
        RoadError.__init__(self, "no way back")
        self.u = u
        self.v = v


class NoText(RoadError):
    """A row of a text that cannot stand there."""

    def __init__(self, at):
        RoadError.__init__(self, "no such text")
        self.at = at


class Full(RoadError):
    """A road that has as many walkers as may be."""

    def __init__(self, most):
        RoadError.__init__(self, "the road is full")
        self.most = most


class NoWalker(IndexError):
    """A place of a road at which no walker is."""

    def __init__(self, place):
        IndexError.__init__(self, "no walker there")
        self.place = place
