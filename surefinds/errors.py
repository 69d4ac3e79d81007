"""The errors of Surefinds. Each one but the base keeps what it was made with, whatever that is."""


class FindError(ValueError):
    """The base of all errors of this package."""


class InvalidCount(FindError):
    """No whole number from 1 to 5."""

    def __init__(self, given):
        super().__init__("no count of suppositions")
        self.given = given


class InvalidFrame(FindError):
    """No frame."""

    def __init__(self, given):
        super().__init__("no frame")
        self.given = given


class InvalidSet(FindError):
    """No set of suppositions, or none of those that are let."""

    def __init__(self, given):
        super().__init__("no set that is let here")
        self.given = given


class InvalidNumber(FindError):
    """No whole number of the told bounds."""

    def __init__(self, given):
        super().__init__("no whole number that is let here")
        self.given = given


class InvalidDegree(FindError):
    """No fraction above 0 up to 1."""

    def __init__(self, given):
        super().__init__("no degree")
        self.given = given


class InvalidFraction(FindError):
    """No fraction."""

    def __init__(self, given):
        super().__init__("no fraction")
        self.given = given


class TooMany(FindError):
    """More than are worked through."""

    def __init__(self, given):
        super().__init__("too many to be worked through")
        self.given = given


class InvalidCorners(FindError):
    """No corners."""

    def __init__(self, index):
        super().__init__("no corners")
        self.index = index


class InvalidBook(FindError):
    """No book."""

    def __init__(self, index):
        super().__init__("no book")
        self.index = index


class InvalidBars(FindError):
    """No bars."""

    def __init__(self, index):
        super().__init__("no bars")
        self.index = index


class InvalidNumbers(FindError):
    """No numbers."""

    def __init__(self, index):
        super().__init__("no numbers")
        self.index = index


class InvalidWorths(FindError):
    """No worths."""

    def __init__(self, index):
        super().__init__("no worths")
        self.index = index


class InvalidTies(FindError):
    """No ties."""

    def __init__(self, index):
        super().__init__("no ties")
        self.index = index


class InvalidWeights(FindError):
    """No weights."""

    def __init__(self, index):
        super().__init__("no weights")
        self.index = index


class InvalidLimits(FindError):
    """No limits."""

    def __init__(self, index):
        super().__init__("no limits")
        self.index = index


class InvalidWeb(FindError):
    """No web."""

    def __init__(self, index):
        super().__init__("no web")
        self.index = index
