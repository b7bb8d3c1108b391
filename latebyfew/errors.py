"""The errors of the package."""


class LateError(Exception):
    """The base class of all errors of the package."""


class BadTown(LateError):
    """A value that is not a town."""

    def __init__(self, thing):
        self.thing = thing


class BadText(LateError):
    """A text that is not one of the asked kind; at is its first wrong line, or 0."""

    def __init__(self, at):
        self.at = at


class BadRound(LateError):
    """A value that is not a round of the town."""

    def __init__(self, thing):
        self.thing = thing


class BadDay(LateError):
    """A value that is not a day of the round."""

    def __init__(self, thing):
        self.thing = thing


class BadBudget(LateError):
    """A value that is not a budget."""

    def __init__(self, thing):
        self.thing = thing


class BadNumber(LateError):
    """A value that is not a number of the asked range."""

    def __init__(self, thing):
        self.thing = thing


class BadMachine(LateError):
    """A value that is not a machine."""

    def __init__(self, thing):
        self.thing = thing


class BadWord(LateError):
    """A value that is not a word, or has no mark."""

    def __init__(self, thing):
        self.thing = thing


class BadHow(LateError):
    """A value that is not a way of joining."""

    def __init__(self, thing):
        self.thing = thing


class NotSure(LateError):
    """A round that is not sure for the budget."""

    def __init__(self, thing):
        self.thing = thing


class BadPrices(LateError):
    """A value that is not prices for the town."""

    def __init__(self, thing):
        self.thing = thing


class BadPath(LateError):
    """A value that is not a path of the town."""

    def __init__(self, thing):
        self.thing = thing


class BadLabel(LateError):
    """A value that has not the form of a label."""

    def __init__(self, thing):
        self.thing = thing


class BadPlace(LateError):
    """A value that is not a place of the town."""

    def __init__(self, thing):
        self.thing = thing


class BadPlan(LateError):
    """A value that is not a plan of the town."""

    def __init__(self, thing):
        self.thing = thing


class BadWishes(LateError):
    """A value that is not an ascending tuple of places."""

    def __init__(self, thing):
        self.thing = thing


class BadPosition(LateError):
    """A value that is not a position of the town."""

    def __init__(self, thing):
        self.thing = thing


class BadMove(LateError):
    """A value that is not a move of the position."""

    def __init__(self, thing):
        self.thing = thing


class BadLine(LateError):
    """A log with a wrong line; k is its position, or -1 for no tuple."""

    def __init__(self, k):
        self.k = k


class BadAnswer(LateError):
    """A value that is not an answer that is possible there."""

    def __init__(self, thing):
        self.thing = thing


class BadStanding(LateError):
    """A value that is not a standing of the town."""

    def __init__(self, thing):
        self.thing = thing


class BadOrder(LateError):
    """A value that is not an order of the standing."""

    def __init__(self, thing):
        self.thing = thing


class BadDeed(LateError):
    """A value that is not a deed that can be done."""

    def __init__(self, thing):
        self.thing = thing


class NothingToUndo(LateError):
    """A desk without a deed that can be undone."""


class NothingToRedo(LateError):
    """A desk without a deed that can be redone."""
