"""Boxes: a window of counters for each stage."""

from withincall.checks import check_number, is_between
from withincall.errors import InvalidBox
from withincall.nets import Net


class Box:
    """The lowest and the highest counter of each stage's window."""

    LOWEST = 0
    HIGHEST = 999

    def __init__(self, lows, highs):
        _check_windows(lows, highs)
        self.lows = lows
        self.highs = highs

    @staticmethod
    def full(stages):
        """The box with the greatest possible windows for this many stages."""
        if not is_between(stages, 1, Net.MOST_STAGES):
            raise InvalidBox(None)
        return Box((Box.LOWEST,) * stages, (Box.HIGHEST,) * stages)

    @staticmethod
    def exactly(state):
        """The box that holds this state only."""
        return Box(state, state)

    def narrowed(self, stage, *, low=0, high=999):
        """The box with this stage's window cut down to the limits."""
        check_number(stage, len(self.lows))
        if not _is_counter(low) or not _is_counter(high):
            raise InvalidBox(stage)
        lows = list(self.lows)
        highs = list(self.highs)
        lows[stage] = max(lows[stage], low)
        highs[stage] = min(highs[stage], high)
        return Box(tuple(lows), tuple(highs))

    def __contains__(self, state):
        if not isinstance(state, tuple) or len(state) != len(self.lows):
            return False
        return all([is_between(counter, low, high)
                    for counter, low, high in zip(state, self.lows, self.highs)])

    def __and__(self, other):
        if len(self.lows) != len(other.lows):
            raise InvalidBox(None)
        lows = [max(low, other_low) for low, other_low in zip(self.lows, other.lows)]
        highs = [min(high, other_high) for high, other_high in zip(self.highs, other.highs)]
        return Box(tuple(lows), tuple(highs))

    def __eq__(self, other):
        return isinstance(other, Box) and self.lows == other.lows and self.highs == other.highs

    def __bool__(self):
        return all([low <= high for low, high in zip(self.lows, self.highs)])


def check_box(net, box):
    """Raise InvalidBox if the box does not have one window for each stage of the net."""
    if len(box.lows) != net.stages:
        raise InvalidBox(None)


def _is_counter(value):
    """True if the value can be a counter."""
    return is_between(value, Box.LOWEST, Box.HIGHEST)


def _is_row(value):
    """True if the value is a tuple with a possible number of items."""
    return isinstance(value, tuple) and 1 <= len(value) <= Net.MOST_STAGES


def _check_windows(lows, highs):
    """Raise InvalidBox if these are not the lowest and the highest counters of a box."""
    if not _is_row(lows) or not _is_row(highs) or len(lows) != len(highs):
        raise InvalidBox(None)
    for position, (low, high) in enumerate(zip(lows, highs)):
        if not _is_counter(low) or not _is_counter(high):
            raise InvalidBox(position)
