"""Moves: which are allowed in a state, and which states they lead to."""

from withincall.checks import is_between
from withincall.errors import Blocked, InvalidMove
from withincall.states import check_state

KINDS = ("advance", "rollback")
WORDS = ("done", "refused")


def check_move(net, move):
    """Return the move. Raise InvalidMove if it is not a move of the net."""
    if not is_move(net, move):
        raise InvalidMove()
    return move


def check_log(net, log):
    """Return the log. Raise InvalidMove if it is not a log of moves of the net."""
    if not isinstance(log, tuple) or not all([_is_line(net, line) for line in log]):
        raise InvalidMove()
    return log


def opposite(net, move):
    """The move that takes this move back."""
    check_move(net, move)
    return (move[0], other_kind(move[1]))


def mirror_move(net, move):
    """The move of the mirrored net that is allowed where this one is allowed."""
    check_move(net, move)
    return (net.stages - 1 - move[0], other_kind(move[1]))


def allowed_moves(net, state):
    """The allowed moves in ascending order."""
    check_state(net, state)
    return tuple([move for move in all_moves(net) if is_allowed(net, state, move)])


def can_move(net, state, move):
    """True if the move is allowed in the state."""
    check_state(net, state)
    check_move(net, move)
    return is_allowed(net, state, move)


def blockers(net, state, move):
    """The channels of the move's side that are not ready."""
    check_state(net, state)
    check_move(net, move)
    return _unready(net, state, move)


def make(net, state, move):
    """The state behind the move. Raise Blocked if it is not allowed."""
    check_state(net, state)
    return _made(net, state, move, 0)


def run_moves(net, state, moves):
    """The state behind all the moves. Raise the error of the first one that cannot be made."""
    check_state(net, state)
    for at, move in enumerate(moves):
        state = _made(net, state, move, at)
    return state


def trace(net, state, moves):
    """Yield the state and the state behind each move, up to the first move that cannot be made."""
    check_state(net, state)
    yield state
    for at, move in enumerate(moves):
        state = _made(net, state, move, at)
        yield state


def is_move(net, value):
    """True if the value is a move of the net."""
    if not isinstance(value, tuple) or len(value) != 2:
        return False
    stage, kind = value
    return is_between(stage, 0, net.stages - 1) and isinstance(kind, str) and kind in KINDS


def all_moves(net):
    """Every move of the net, allowed or not, in ascending order."""
    return [(stage, kind) for stage in range(net.stages) for kind in KINDS]


def other_kind(kind):
    """The kind of move that is not this one."""
    return "rollback" if kind == "advance" else "advance"


def side_of(net, move):
    """The channels that must be ready for the move."""
    stage, kind = move
    return net.incoming(stage) if kind == "advance" else net.outgoing(stage)


def is_allowed(net, state, move):
    """True if the move is allowed. The state and the move have been checked."""
    side = side_of(net, move)
    return len(side) > 0 and all([_is_ready(net, state, channel) for channel in side])


def state_behind(state, move):
    """The state with the stage's counter changed by the move, whether that is allowed or not."""
    stage, kind = move
    change = 1 if kind == "advance" else -1
    return (*state[:stage], state[stage] + change, *state[stage + 1:])


def _is_line(net, value):
    """True if the value is a line of a log."""
    if not isinstance(value, tuple) or len(value) != 3:
        return False
    return is_move(net, value[:2]) and isinstance(value[2], str) and value[2] in WORDS


def _is_ready(net, state, channel):
    """True if the channel is neither owing nor empty nor jammed."""
    producer, consumer, capacity = net.channels[channel]
    return 1 <= state[producer] - state[consumer] <= capacity


def _unready(net, state, move):
    """The channels of the side of a checked move that are not ready."""
    return tuple([channel for channel in side_of(net, move) if not _is_ready(net, state, channel)])


def _made(net, state, move, at):
    """The state behind the move that stands at this position of a row."""
    check_move(net, move)
    if not is_allowed(net, state, move):
        raise Blocked(move, _unready(net, state, move), at)
    return state_behind(state, move)
