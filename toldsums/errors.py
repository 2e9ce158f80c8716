"""The refusals: one class for each kind, all under SumError."""


class SumError(ValueError):
    """Any refusal."""


class NoText(SumError):
    """A text that is no row."""


class NoStretch(SumError):
    """A pair or a number that names no stretch of the row."""


class NoRest(SumError):
    """A number that sums are not parted by, or a rest that it does not leave."""


class NoPlace(SumError):
    """A place that the row does not have."""


class NoAsk(SumError):
    """A line that the desk does not take."""
