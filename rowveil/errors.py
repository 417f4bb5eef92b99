"""The refusals: one class for each, all straight under VeilError."""


class VeilError(ValueError):
    """Any refusal."""


class TooMany(VeilError):
    """There is more of something than is taken on."""


class NoAsk(VeilError):
    """A thing that is no ask."""


class NoRight(VeilError):
    """A view, by its name, that a user has no right to."""

    def __init__(self, name):
        super().__init__(f"no right to the view {name}")
        self.name = name


class NoRow(VeilError):
    """A thing that is no row of a table, or no value of a column."""


class NotLet(VeilError):
    """The rules do not let a user write a row."""


class Taken(VeilError):
    """There is a row of that key already."""


class Full(VeilError):
    """A table has as many rows as it may have."""


class NoCondition(VeilError):
    """A thing that is no condition."""


class NoGround(VeilError):
    """A thing that is no ground."""


class NoRule(VeilError):
    """A thing that is no rule."""


class Twice(VeilError):
    """A rule, or a view's name, that stands there already."""


class NotThere(VeilError):
    """A thing that is not there to be taken away."""


class NoView(VeilError):
    """A thing that is no view."""


class InUse(VeilError):
    """A view that another one's ask has."""


class NoTable(VeilError):
    """A thing that is no table's name."""


class NoUser(VeilError):
    """A thing that is no user."""


class NoneOpen(VeilError):
    """There is no begin to roll back or to commit."""


class TooDeep(VeilError):
    """More begins than may be under way at once."""


class NoDeeds(VeilError):
    """A thing that is no list of deeds."""


class NoText(VeilError):
    """A thing that is not a condition's or an ask's text."""


class NoLine(VeilError):
    """A thing that is no row that the desk knows."""
