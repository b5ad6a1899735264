"""The refusals: each class stands straight under RoadError, and keeps what is refused in its field `what`."""


class RoadError(ValueError):
    """Something that was handed in is refused."""

    def __init__(self, what):
        self.what = what


class NoTable(RoadError):
    """What is no table of the store."""


class NoNode(RoadError):
    """What is no node of the store."""


class NoPlace(RoadError):
    """What is no place of the roads."""


class NotBehind(RoadError):
    """An early place that isn't on the road to the late one."""


class Known(RoadError):
    """A name that is declared already."""


class NoSetting(RoadError):
    """A name that isn't declared."""


class Missing(RoadError):
    """A name that has neither a value nor a default."""


class NoWorld(RoadError):
    """What is no world of the hall."""


class Busy(RoadError):
    """A world that is entered already."""


class AtHome(RoadError):
    """The only world that is entered, which can't be left."""


class NoToken(RoadError):
    """What is no token of the hall."""


class Used(RoadError):
    """A token that is used."""


class Elsewhere(RoadError):
    """A token whose world isn't the one now."""


class OutOfTurn(RoadError):
    """A token with a later open one of the same world and name."""


class NoWatcher(RoadError):
    """What is no watcher of the lookout, or one that is gone."""


class NoTask(RoadError):
    """A path that no task and no call has."""


class BadRow(RoadError):
    """The number of a row that isn't as it is to be written, or can't stand there."""
