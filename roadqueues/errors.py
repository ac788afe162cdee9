"""The errors of the package. Each keeps its only argument as value."""


class QueueError(ValueError):
    """The base of all errors of the package."""

    def __init__(self, value):
        self.value = value


class BadWeb(QueueError):
    """A text is no web; the number of its first line that cannot stand, 0 for what is no string."""


class BadRoad(QueueError):
    """A value is not the name of a road of the web."""


class BadPlace(QueueError):
    """A value is not the name of a place of the web."""


class BadNumber(QueueError):
    """A value is no integer as it is asked for."""


class TooMany(QueueError):
    """There are more than so many."""


class BadPuttings(QueueError):
    """A value is no row of puttings; the number of its first part that cannot stand, or None."""


class BadRate(QueueError):
    """A value is no rate."""


class BadWay(QueueError):
    """A value is no way of the web."""


class TooFast(QueueError):
    """A rate is not kept, or is too great for what is asked."""


class BadText(QueueError):
    """A text is no row of puttings; the number of its first line that cannot stand, 0 for what is no string."""


class BadRule(QueueError):
    """A value is no rule as it is asked for."""


class BadRows(QueueError):
    """A value is no tuple of rows of letters that stand at one road."""


class NotRing(QueueError):
    """The web is not one ring."""


class HasRing(QueueError):
    """The web has a ring."""


class TooSlow(QueueError):
    """The rate is too slow for a putter."""


class NotTowards(QueueError):
    """The web has another shape than "towards", which is told."""


class BadDues(QueueError):
    """A value is no tuple of dues, one for each letter."""


class UnlikeEnds(QueueError):
    """The ways end at several places, which are told."""


class BadWays(QueueError):
    """A value is no tuple of ways as it is asked for."""


class BadTable(QueueError):
    """A value is no fine timetable."""


class TooGreat(QueueError):
    """What is asked for is too great to be told."""


class NoThing(QueueError):
    """A value is not the name of a thing of the desk."""


class WrongKind(QueueError):
    """The thing of this name is not of the kind that is asked for."""


class BadName(QueueError):
    """A value is no name."""


class Held(QueueError):
    """The name is that of a thing already."""


class OtherWeb(QueueError):
    """The row of this name belongs to another web."""


class BadDeed(QueueError):
    """A value is no deed."""


class NothingToUndo(QueueError):
    """No deed stands."""


class NothingToRedo(QueueError):
    """No deed is undone; so many stand."""


class NoNote(QueueError):
    """A value is not a word that notes something."""


class BadDesk(QueueError):
    """A text is no desk; the number of its first line that cannot stand, 0 for what is no string."""
