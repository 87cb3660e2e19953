"""The refusals of the program, each with the things that it is about.

No words are built of the refused things: they may be numbers too great to be written out.
"""


class LandError(ValueError):
    """The family of refusals of things that are wrong in themselves."""


class LookError(LookupError):
    """The family of refusals of things that are not there."""


class NameFault(KeyError):
    """The family of refusals of numbers and names that stand for nothing."""


class NoShare(ZeroDivisionError):
    """Nought was to stand under a share."""


class BadSize(LandError):
    """A size that no plan, land or viewer has."""

    def __init__(self, size):
        self.size = size


class BadHeight(LandError):
    """A height that is no whole number or goes beyond."""

    def __init__(self, at, high):
        self.at = at
        self.high = high


class Cracked(LandError):
    """A cut without a parent of its own: a crack in the mesh."""

    def __init__(self, at, other):
        self.at = at
        self.other = other


class Twice(LandError):
    """A cut that is there already."""

    def __init__(self, at):
        self.at = at


class OtherPlan(LandError):
    """Two things of different plans."""


class BadView(LandError):
    """A tolerance that is less than nought."""

    def __init__(self, wrong):
        self.wrong = wrong


class TooFew(LandError):
    """Fewer triangles than there are roots."""

    def __init__(self, most):
        self.most = most


class Lacking(LandError):
    """A cut one of whose ends has no height yet."""

    def __init__(self, at, other):
        self.at = at
        self.other = other


class BadRest(LandError):
    """A rest that makes no whole height."""

    def __init__(self, at, rest):
        self.at = at
        self.rest = rest


class BadRate(LandError):
    """A rate, or a number of cuts ahead, that is less than nought."""

    def __init__(self, rate):
        self.rate = rate


class NoRoom(LandError):
    """More wanted cuts than there is room for."""

    def __init__(self, many):
        self.many = many


class NoHalf(LandError):
    """A triangle whose long side has no whole middle."""

    def __init__(self, shape):
        self.shape = shape


class BadPage(LandError):
    """A text that is no land's page."""

    def __init__(self, row):
        self.row = row


class BadCode(LandError):
    """A text that is no mesh's code."""


class BadLine(LandError):
    """A line that the desk doesn't know."""

    def __init__(self, line):
        self.line = line


class NoPlace(LookError):
    """A pair that is no place of the plan."""

    def __init__(self, at):
        self.at = at


class NoCut(LookError):
    """A corner of blocks where a cut is asked for."""

    def __init__(self, at):
        self.at = at


class NotIn(LookError):
    """A cut that is not in the set or mesh."""

    def __init__(self, at):
        self.at = at


class NotHeld(LookError):
    """A cut that nothing keeps out."""

    def __init__(self, at):
        self.at = at


class NoTriangle(LookError):
    """A triangle that is none of the plan's or mesh's."""

    def __init__(self, shape):
        self.shape = shape


class NoSpot(LookError):
    """A spot outside of the land."""

    def __init__(self, spot):
        self.spot = spot


class NotCome(LookError):
    """A cut of which no record has come."""

    def __init__(self, at):
        self.at = at


class NoLand(LookError):
    """A desk that has no land yet."""


class NoPacket(NameFault):
    """A number that no packet in the air has."""

    def __init__(self, number):
        self.number = number


class NoName(NameFault):
    """A name that no view has."""

    def __init__(self, name):
        self.name = name


class NothingLeft(IndexError):
    """No deed that could be taken back or done again."""
