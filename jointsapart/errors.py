"""All errors of the package: each stands directly under WallError."""


class WallError(ValueError):
    """What every error of the package is."""


class BadRatio(WallError):
    """What is no ratio, or no part of one."""

    def __init__(self, what):
        self.what = what


class BadStock(WallError):
    """What no stock can be made of."""

    def __init__(self, what):
        self.what = what


class BadSize(WallError):
    """A size that is not asked for."""


class BadCourse(WallError):
    """What is no course of the stock, and the entry where that shows."""

    def __init__(self, index, what):
        self.index = index
        self.what = what


class BadJoints(WallError):
    """What are no joints of a course of this length."""


class BadLength(WallError):
    """A length that is out of bounds."""


class NoCourse(WallError):
    """The number of no course."""

    def __init__(self, number):
        self.number = number


class UnlikeLengths(WallError):
    """Two lengths that should be alike."""


class BadText(WallError):
    """A text that cannot be read back, and the row where that shows."""

    def __init__(self, number, what):
        self.number = number
        self.what = what


class BadWall(WallError):
    """What is no wall, and the course where that shows."""

    def __init__(self, index, what):
        self.index = index
        self.what = what


class NotRight(WallError):
    """A wall that has a clash."""


class CannotPile(WallError):
    """Two walls that differ where they should be alike."""

    def __init__(self, what):
        self.what = what


class NoCourses(WallError):
    """What are not the first and the last course of a part."""


class NoNumber(WallError):
    """What is no number of the thing that is asked for."""

    def __init__(self, number):
        self.number = number


class TooLong(WallError):
    """A length above the most that is let."""

    def __init__(self, most):
        self.most = most


class BadRound(WallError):
    """What is no round, and the course where that shows."""

    def __init__(self, index, what):
        self.index = index
        self.what = what


class BadHeight(WallError):
    """A height that is out of bounds."""


class BadOrder(WallError):
    """What is no order of the courses of a round."""


class BadMost(WallError):
    """What is no bound."""


class Wide(WallError):
    """More things come than the bound lets."""

    def __init__(self, most):
        self.most = most


class BadCalendar(WallError):
    """What no calendar can be made of."""

    def __init__(self, what):
        self.what = what


class BadTariff(WallError):
    """What is no tariff, and the entry where that shows."""

    def __init__(self, index):
        self.index = index


class BadEnd(WallError):
    """What is no end."""

    def __init__(self, what):
        self.what = what


class BadCut(WallError):
    """What cannot be cut, and the course where that shows."""

    def __init__(self, index, what):
        self.index = index
        self.what = what


class UnlikeEnds(WallError):
    """Two ends of unlike numbers of courses."""


class BadClock(WallError):
    """What is no clock."""

    def __init__(self, what):
        self.what = what


class BadPattern(WallError):
    """What is no pattern, and the entry where that shows."""

    def __init__(self, index):
        self.index = index


class BadCounts(WallError):
    """What are no counts of bricks."""

    def __init__(self, what):
        self.what = what


class BadShare(WallError):
    """What is no lap share."""

    def __init__(self, share):
        self.share = share


class BadBrickRatio(WallError):
    """What is no brick ratio."""

    def __init__(self, ratio):
        self.ratio = ratio


class NotTwo(WallError):
    """A stock that has not two bricks."""


class BadStretch(WallError):
    """What no stretch can be made of."""

    def __init__(self, what):
        self.what = what


class NoEnd(WallError):
    """A list that would never end."""


class BadDrift(WallError):
    """What is no drift."""

    def __init__(self, what):
        self.what = what


class BadBreadth(WallError):
    """What is no breadth."""


class BadCorners(WallError):
    """What is no corner word."""


class BadFace(WallError):
    """What is no face."""

    def __init__(self, what):
        self.what = what


class BadWell(WallError):
    """What no well course can be made of."""

    def __init__(self, what):
        self.what = what


class UnlikeGirths(WallError):
    """Two girths that should be alike."""


class BadPrices(WallError):
    """What are no prices."""

    def __init__(self, what):
        self.what = what


class TooShort(WallError):
    """A wall or round without places."""


class BadCrack(WallError):
    """What is no crack, and the item where that shows."""

    def __init__(self, index):
        self.index = index


class BadCrackCalendar(WallError):
    """What no crack calendar can be made of."""

    def __init__(self, what):
        self.what = what


class BadLoads(WallError):
    """What are no loads, and the entry where that shows."""

    def __init__(self, index, what):
        self.index = index
        self.what = what


class BadWeight(WallError):
    """What is no weight."""


class BadPressure(WallError):
    """What is no pressure."""


class BadTotal(WallError):
    """What is no sum of loads."""


class BadFeet(WallError):
    """What are no feet of loads, and the entry where that shows."""

    def __init__(self, index):
        self.index = index


class BadBrick(WallError):
    """What is no brick of the wall."""

    def __init__(self, brick):
        self.brick = brick


class BadBundle(WallError):
    """What is no bundle, and the entry where that shows."""

    def __init__(self, index):
        self.index = index


class TooManyBricks(WallError):
    """More bricks in a wall than the bound lets."""

    def __init__(self, most):
        self.most = most


class BadRuin(WallError):
    """What is no ruin, and the row where that shows."""

    def __init__(self, index, what):
        self.index = index
        self.what = what


class BadSign(WallError):
    """What is no sign of a ruin."""


class NoFilling(WallError):
    """A ruin without a filling."""


class ManySeen(WallError):
    """A ruin with too many spots seen."""


class BadChange(WallError):
    """What is no change, and its place where that shows."""

    def __init__(self, index, what):
        self.index = index
        self.what = what


class BadWish(WallError):
    """What is no wish, and its place where that shows."""

    def __init__(self, index, what):
        self.index = index
        self.what = what


class NoChange(WallError):
    """The number of no standing change."""

    def __init__(self, number):
        self.number = number
