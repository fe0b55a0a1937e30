"""The errors of the package."""


class LotError(ValueError):
    """The base class of all errors of the package."""


class BadProblem(LotError):
    """A value is not a problem."""

    def __init__(self, part, index):
        super().__init__(f"not a problem: part {part}, index {index}")
        self.part = part
        self.index = index


class BadPeriod(LotError):
    """A value is not a period that is meant here."""


class BadPlan(LotError):
    """A value is not a plan."""

    def __init__(self, index):
        super().__init__(f"not a plan: index {index}")
        self.index = index


class BadStarts(LotError):
    """A value does not tell starts of a plan."""


class NotText(LotError):
    """A value is not a string."""


class InvalidText(LotError):
    """A text does not tell a problem."""

    def __init__(self, line, word):
        super().__init__(f"cannot be read: line {line}, word {word}")
        self.line = line
        self.word = word


class TooMany(LotError):
    """There is more than is allowed."""

    def __init__(self, most):
        super().__init__(f"too many: most {most}")
        self.most = most


class BadParts(LotError):
    """A value does not tell the parts of a problem."""

    def __init__(self, index):
        super().__init__(f"not parts: index {index}")
        self.index = index


class NotPositive(LotError):
    """A demand is 0 where all must be more."""

    def __init__(self, index):
        super().__init__(f"nothing is demanded: index {index}")
        self.index = index


class BadPoint(LotError):
    """A value is not a point."""

    def __init__(self, index):
        super().__init__(f"not a point: index {index}")
        self.index = index


class BadRow(LotError):
    """A value is not a row."""


class NotSteady(LotError):
    """A problem is not steady."""

    def __init__(self, index):
        super().__init__(f"not steady: index {index}")
        self.index = index


class BadGroup(LotError):
    """A value is not a group of members."""


class BadLine(LotError):
    """A value is not a line."""

    def __init__(self, index):
        super().__init__(f"not a line: index {index}")
        self.index = index


class BadLinePlan(LotError):
    """A value is not a plan of a line."""


class BadLates(LotError):
    """A value does not tell what owing costs."""


class BadAmount(LotError):
    """A value is not an amount that is meant here."""


class BadItems(LotError):
    """A value does not tell items."""

    def __init__(self, index):
        super().__init__(f"not items: index {index}")
        self.index = index


class BadArcs(LotError):
    """A value does not tell arcs between items."""


class BadExponents(LotError):
    """A value does not tell exponents of items."""


class BadStore(LotError):
    """A value is not a store."""

    def __init__(self, index):
        super().__init__(f"not a store: index {index}")
        self.index = index


class BadLevels(LotError):
    """A value does not tell levels of a store."""


class BadValues(LotError):
    """A value is not a tuple of integers."""


class BadRooms(LotError):
    """A value does not tell rooms."""


class BadAmounts(LotError):
    """Values are not two tuples of ratios that go together."""


class BadBounds(LotError):
    """A value does not tell bounds."""


class BadMix(LotError):
    """A value is not a mix of bounds."""


class BadRule(LotError):
    """A value is not a rule."""


class BadEdit(LotError):
    """A value is not an edit that can be made."""


class NothingToUndo(LotError):
    """There is no edit to take back."""


class BadJoint(LotError):
    """A value does not tell items that share setups, or a split."""

    def __init__(self, index):
        super().__init__(f"not joint: index {index}")
        self.index = index


class NotFavored(LotError):
    """The costs of a line do not favor nested plans."""
