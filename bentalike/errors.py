"""The errors of the package: each one stands under BendError alone."""


class BendError(ValueError):
    """What every error of this package is."""


class InvalidPoint(BendError):
    """What was given for a point is none."""

    def __init__(self, given):
        self.given = given


class InvalidSegment(BendError):
    """What was given for a segment is none."""

    def __init__(self, given):
        self.given = given


class InvalidFigure(BendError):
    """What was given for a figure is none."""

    def __init__(self, given):
        self.given = given


class InvalidScene(BendError):
    """What was given for a scene is none."""

    def __init__(self, given):
        self.given = given


class InvalidCell(BendError):
    """What was given for a cell is none of the drawing or map."""

    def __init__(self, given):
        self.given = given


class InvalidName(BendError):
    """What was given for a name is none."""

    def __init__(self, given):
        self.given = given


class InvalidIndex(BendError):
    """What was given for an index is none of what is counted."""

    def __init__(self, given):
        self.given = given


class InvalidMap(BendError):
    """What was given for a map is none."""

    def __init__(self, given):
        self.given = given


class InvalidDart(BendError):
    """What was given for a dart is none of the map."""

    def __init__(self, given):
        self.given = given


class InvalidSpecial(BendError):
    """What was given for a special is none of the map."""

    def __init__(self, given):
        self.given = given


class InvalidFace(BendError):
    """What was given for a face is none of the map."""

    def __init__(self, given):
        self.given = given


class InvalidPart(BendError):
    """What was given for a part is none of the map."""

    def __init__(self, given):
        self.given = given


class InvalidStep(BendError):
    """What was given for a step is none of the map."""

    def __init__(self, given):
        self.given = given


class InvalidSide(BendError):
    """What was given for a side is none."""

    def __init__(self, given):
        self.given = given


class InvalidCode(BendError):
    """What was given for a code is that of no map."""

    def __init__(self, given):
        self.given = given


class InvalidPick(BendError):
    """What was given for a pick is none."""

    def __init__(self, given):
        self.given = given


class InvalidDeed(BendError):
    """What was given for a deed is none that fits."""

    def __init__(self, given):
        self.given = given


class InvalidBook(BendError):
    """What was given for a book is none."""

    def __init__(self, given):
        self.given = given


class InvalidWindow(BendError):
    """What was given for a window is none."""

    def __init__(self, given):
        self.given = given


class TooMany(BendError):
    """There are more than a bound lets in; `given` tells how many."""

    def __init__(self, given):
        self.given = given


class InvalidSegments(BendError):
    """A row of segments is none; `index` tells the first one that is wrong."""

    def __init__(self, index):
        self.index = index


class InvalidPoints(BendError):
    """A row of points is none; `index` tells the first one that is wrong."""

    def __init__(self, index):
        self.index = index


class InvalidLines(BendError):
    """A row of lines is none; `index` tells the first one that is wrong."""

    def __init__(self, index):
        self.index = index


class BadText(BendError):
    """A text cannot be read; `spot` tells where it is wrong."""

    def __init__(self, spot):
        self.spot = spot


class NothingToUndo(BendError):
    """A book has no state ahead."""


class NothingToRedo(BendError):
    """A book has no state behind."""
