"""All errors of the package; each keeps its argument in a field."""


class NetError(ValueError):
    """What all errors about invalid values have in common."""


class InvalidNumber(NetError):
    """A value is not a number, or not one that may stand there."""

    def __init__(self, value):
        self.value = value


class InvalidNet(NetError):
    """The nodes or the fuses of a net are not as described."""

    def __init__(self, part):
        self.part = part


class InvalidPoint(NetError):
    """A value is not a point of the net."""

    def __init__(self, value):
        self.value = value


class InvalidLights(NetError):
    """A light is not as described; the index None stands for the list itself."""

    def __init__(self, index):
        self.index = index


class InvalidFuse(NetError):
    """A value is not the index of a fuse, or not of one that may stand there."""

    def __init__(self, value):
        self.value = value


class InvalidRules(NetError):
    """A part of the rules of a course is not as described."""

    def __init__(self, part):
        self.part = part


class InvalidJoin(NetError):
    """Nets cannot be joined at this value."""

    def __init__(self, value):
        self.value = value


class InvalidObservations(NetError):
    """A value is not observations of the net."""

    def __init__(self, value):
        self.value = value


class InvalidName(NetError):
    """A value is not a user or a name."""

    def __init__(self, value):
        self.value = value


class InvalidAction(NetError):
    """A value is not an action, an edit or an entry."""

    def __init__(self, value):
        self.value = value


class InvalidText(NetError):
    """A line of a text is not as described; the index None stands for the whole text."""

    def __init__(self, index):
        self.index = index


class InvalidCommand(NetError):
    """A value is not a command."""

    def __init__(self, value):
        self.value = value


class InvalidLengths(NetError):
    """A value is not a list of timers."""

    def __init__(self, value):
        self.value = value


class InvalidPrices(NetError):
    """A value is not a list of prices for the fuses."""

    def __init__(self, value):
        self.value = value


class InvalidNodes(NetError):
    """A value is not a list of nodes to keep."""

    def __init__(self, value):
        self.value = value


class InvalidProgram(NetError):
    """A rule of a machine is not as described; the index None stands for the list itself."""

    def __init__(self, index):
        self.index = index


class NameTaken(NetError):
    """A net has this name already."""

    def __init__(self, name):
        self.name = name


class NotATree(RuntimeError):
    """The net is not a tree."""


class Blocked(RuntimeError):
    """The action or edit with this index cannot be made."""

    def __init__(self, index):
        self.index = index


class LimitExceeded(OverflowError):
    """There would be more than the limit."""

    def __init__(self, limit):
        self.limit = limit


class UnknownName(KeyError):
    """No net has this name."""

    def __init__(self, name):
        self.name = name


class NothingToUndo(LookupError):
    """The user has nothing to undo or to redo."""

    def __init__(self, user):
        self.user = user
