"""The refusals: one class for each kind, all of them straight under CutError."""


class CutError(ValueError):
    """Any refusal."""


class NoField(CutError):
    """There is no field where one is wanted."""


class NoWeights(CutError):
    """What was handed in as weights is none."""


class NoCut(CutError):
    """The sums by the weights make no cut."""


class Nothing(CutError):
    """The field leaves nothing."""


class NoTurn(CutError):
    """Two directions without a turn to the left, or four numbers that are no turn."""


class NoCorner(CutError):
    """There is no broken corner of this number."""


class NoNumber(CutError):
    """What was handed in as a number is none, or lies outside what is allowed."""


class NoText(CutError):
    """This is not how a field is written."""


class NoLine(CutError):
    """A desk does not know this line."""


class NoDeed(CutError):
    """No deed stands that could be undone."""
