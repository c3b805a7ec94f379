"""Everything that is refused, one class for each reason."""


class FenceError(ValueError):
    """Above all errors of this package; `value` is what is to blame."""

    def __init__(self, value):
        self.value = value


class BadPoint(FenceError):
    """What was handed in as a point is none."""


class Same(FenceError):
    """Two ends are the same point, where a stretch or a path was wanted."""


class BadShare(FenceError):
    """What was handed in as a share is no fraction from 0 to 1."""


class BadRing(FenceError):
    """What was handed in is no closed line, or no ring of the drawing."""


class OnLine(FenceError):
    """The spot lies on the closed line itself."""


class BadDrawing(FenceError):
    """The text tells no drawing; the value is the number of its first wrong line."""


class BadFence(FenceError):
    """The line cannot stand as the next one of the drawing."""


class NoName(FenceError):
    """No fence of the drawing has this name."""


class BadPrice(FenceError):
    """What was handed in as a price is no integer from 1 to 99."""


class BadWord(FenceError):
    """The word is none of those that are understood here."""


class BadPiece(FenceError):
    """No piece of the drawing has this number."""


class BadLand(FenceError):
    """No land that is meant here has this number."""


class BadSpot(FenceError):
    """What was handed in is no spot of the drawing."""


class BadWay(FenceError):
    """What was handed in is no crossing way of the drawing."""


class Twice(FenceError):
    """Both drawings have a fence of this name."""


class Along(FenceError):
    """The two fences of these names have more than one point in common."""


class Full(FenceError):
    """There would be so many fences, which is more than a drawing holds."""


class BadEnd(FenceError):
    """What was handed in as the end of a fence is neither 0 nor 1."""


class Through(FenceError):
    """The path of the led end goes through the other end of this fence."""


class BadSpots(FenceError):
    """What was handed in is no tuple of two to six unlike spots of the drawing."""


class Covered(FenceError):
    """This mark would lie on the fence."""


class BadNumber(FenceError):
    """The number is none that is meant here."""


class Leans(FenceError):
    """The deed of this number would be refused without the one to be struck."""


class BadMark(FenceError):
    """No mark of the field has this number."""


class NothingToUndo(FenceError):
    """No deed stands that could be taken back."""


class NothingToRedo(FenceError):
    """No deed was taken back that could be done again."""


class NoTrial(FenceError):
    """There is no trial around this that could be kept."""


class BadJournal(FenceError):
    """The text tells no field; the value is the number of its first wrong line."""


class BadWords(FenceError):
    """A desk does not understand this line."""
