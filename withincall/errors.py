"""The errors of the program.

The attributes of an error are also its message. No text is made from them, since they may hold
values of any kind, for example an integer with too many digits to be written.
"""


class WithinCallError(ValueError):
    """The base class of all errors of the program."""


class InvalidNet(WithinCallError):
    """A net cannot be made, or is not of the kind that is needed."""

    def __init__(self, reason, position):
        self.reason = reason
        self.position = position


class InvalidState(WithinCallError):
    """A value is not a state of the net."""

    def __init__(self, position):
        self.position = position


class InvalidMove(WithinCallError):
    """A value is not a move of the net, or not a log of such moves."""


class InvalidBox(WithinCallError):
    """A box cannot be made, or does not suit the net."""

    def __init__(self, position):
        self.position = position


class InvalidText(WithinCallError):
    """A text is not of the written form."""

    def __init__(self, line):
        self.line = line


class InvalidLimit(WithinCallError):
    """A value cannot be the limit of a desk's history."""

    def __init__(self, value):
        self.value = value


class InvalidName(WithinCallError):
    """A text cannot be the name of a watched target."""

    def __init__(self, name):
        self.name = name


class UnknownName(WithinCallError):
    """No target is watched under the name."""

    def __init__(self, name):
        self.name = name


class NotFound(WithinCallError):
    """A stage, a channel, an item, a rank, a number or a step does not exist."""

    def __init__(self, number):
        self.number = number


class Blocked(WithinCallError):
    """A move is not allowed."""

    def __init__(self, move, channels, at):
        self.move = move
        self.channels = channels
        self.at = at


class Unreachable(WithinCallError):
    """A target is not reached from the start."""

    def __init__(self, objection):
        self.objection = objection


class NoState(WithinCallError):
    """No state is chosen."""

    def __init__(self, certificate):
        self.certificate = certificate


class Unrecoverable(WithinCallError):
    """No clean state is reached."""

    def __init__(self, conflict):
        self.conflict = conflict


class Contradiction(WithinCallError):
    """No capacities fit all observations."""

    def __init__(self, certificate):
        self.certificate = certificate


class TooLarge(WithinCallError):
    """The work would be more than the most that is done."""

    def __init__(self, size, most):
        self.size = size
        self.most = most


class NothingToUndo(WithinCallError):
    """The history of a desk is empty."""


class NothingToRedo(WithinCallError):
    """A desk has no deed that could be done again."""
