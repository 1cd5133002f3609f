"""Logs: lines that tell which moves were made and which were refused."""

from withincall.moves import check_log, is_allowed, state_behind
from withincall.states import check_state


def audit(net, start, log):
    """The position of the first line that is not true, or None."""
    check_state(net, start)
    check_log(net, log)
    return _first_untrue(net, start, log)


def repairs(net, start, log):
    """All single corrections after which the log is true, in ascending order."""
    check_state(net, start)
    check_log(net, log)
    found = []
    for position, line in enumerate(log):
        before, after = log[:position], log[position + 1:]
        if _first_untrue(net, start, before + after) is None:
            found.append((position, "strike"))
        if _first_untrue(net, start, (*before, _turned(line), *after)) is None:
            found.append((position, "turn"))
    return tuple(found)


def _first_untrue(net, start, log):
    """The position of the first line that is not true, or None."""
    state = start
    for position, (stage, kind, word) in enumerate(log):
        move = (stage, kind)
        if is_allowed(net, state, move) != (word == "done"):
            return position
        if word == "done":
            state = state_behind(state, move)
    return None


def _turned(line):
    """The line with the other word."""
    stage, kind, word = line
    return (stage, kind, "refused" if word == "done" else "done")
