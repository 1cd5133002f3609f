"""Reach: which states are reached from which, with how few moves, and by which moves."""

from withincall.checks import is_between
from withincall.errors import TooLarge, Unreachable
from withincall.moves import all_moves, is_allowed, is_move, other_kind, side_of, state_behind
from withincall.nets import Net
from withincall.states import check_state

MOST_MOVES = 2000


def objections(net, start, target):
    """All objections to the target, seen from the start, in ascending order."""
    check_state(net, start)
    check_state(net, target)
    return all_objections(net, start, target)


def is_objection(net, start, target, objection):
    """True if the value is one of the objections to the target, seen from the start."""
    found = objections(net, start, target)
    if not isinstance(objection, tuple) or len(objection) != 2:
        return False
    reason, number = objection
    return isinstance(reason, str) and is_between(number, 0, Net.MOST_CHANNELS) and objection in found


def reaches(net, start, target):
    """True if the target is reached from the start."""
    return len(objections(net, start, target)) == 0


def distance(net, start, target):
    """The least number of moves from the start to the target. Raise Unreachable if there are none."""
    found = objections(net, start, target)
    if found:
        raise Unreachable(found[0])
    return moves_between(start, target)


def first_moves(net, start, target):
    """The moves with which some plan begins, in ascending order."""
    distance(net, start, target)
    return tuple([move for move in _moves_towards(start, target) if _begins_plan(net, start, target, move)])


def safe_moves(net, start, target):
    """The allowed moves behind which the target is reached, in ascending order."""
    check_state(net, start)
    check_state(net, target)
    allowed = [move for move in all_moves(net) if is_allowed(net, start, move)]
    return tuple([move for move in allowed if not all_objections(net, state_behind(start, move), target)])


def plan(net, start, target):
    """The first plan in ascending order. Raise Unreachable or TooLarge if there is none to be had."""
    state = start
    moves = []
    for _ in range(plan_length(net, start, target)):
        move = _first_move(net, state, target)
        moves.append(move)
        state = state_behind(state, move)
    return tuple(moves)


def is_plan(net, start, target, moves):
    """True if the value is a plan from the start to the target."""
    if not reaches(net, start, target) or not isinstance(moves, tuple):
        return False
    if len(moves) != moves_between(start, target):
        return False
    state = start
    for move in moves:
        if not is_move(net, move) or not is_allowed(net, state, move):
            return False
        state = state_behind(state, move)
    return state == target


def plan_length(net, start, target):
    """The distance. Raise TooLarge if it is more than the most moves of a plan."""
    size = distance(net, start, target)
    if size > MOST_MOVES:
        raise TooLarge(size, MOST_MOVES)
    return size


def all_objections(net, start, target):
    """The objections between two states that have been checked, in ascending order."""
    channels = list(range(len(net.channels)))
    found = _stage_objections(net, start, target) + _channel_objections(net, start, target, channels)
    if net.is_ring():
        found = found + _range_objections(start, target)
    return tuple(sorted(found))


def draws_from(start, target, channel):
    """True if some moves that lead from the start to the target draw from the channel."""
    producer, consumer, _ = channel
    return target[producer] < start[producer] or target[consumer] > start[consumer]


def moves_between(start, target):
    """The sum of the differences between the counters."""
    return sum([abs(counter - wanted) for counter, wanted in zip(start, target)])


def _stage_objections(net, start, target):
    """The sources that would have to advance and the sinks that would have to roll back."""
    found = []
    for stage in range(net.stages):
        if target[stage] > start[stage] and not net.incoming(stage):
            found.append(("source", stage))
        if target[stage] < start[stage] and not net.outgoing(stage):
            found.append(("sink", stage))
    return found


def _channel_objections(net, start, target, channels):
    """The objections that these channels make."""
    found = []
    for channel in channels:
        if draws_from(start, target, net.channels[channel]):
            producer, consumer, capacity = net.channels[channel]
            if start[producer] - start[consumer] > capacity:
                found.append(("jammed", channel))
            if target[producer] < target[consumer]:
                found.append(("orphan", channel))
    return found


def _range_objections(start, target):
    """The stages of a ring that would leave the range of its counters."""
    low = min(start)
    high = max(start)
    above = [("above", stage) for stage, counter in enumerate(target) if counter > high]
    below = [("below", stage) for stage, counter in enumerate(target) if counter < low]
    return above + below


def _moves_towards(start, target):
    """For each stage whose counter differs, its move towards the target, allowed or not."""
    moves = []
    for stage, (counter, wanted) in enumerate(zip(start, target)):
        if counter < wanted:
            moves.append((stage, "advance"))
        elif counter > wanted:
            moves.append((stage, "rollback"))
    return moves


def _begins_plan(net, state, target, move):
    """True if some plan begins with this move towards a target that is reached."""
    if not is_allowed(net, state, move):
        return False
    # A move towards the target can raise no objection but one: it may jam a channel of the stage's
    # other side. In a ring it cannot give up the greatest or the least counter while another stage
    # must come there, since then the target would have an orphan already.
    stage, kind = move
    channels = side_of(net, (stage, other_kind(kind)))
    return not _channel_objections(net, state_behind(state, move), target, channels)


def _first_move(net, state, target):
    """The first of the moves with which a plan to a target that is reached begins."""
    for move in _moves_towards(state, target):
        if _begins_plan(net, state, target, move):
            return move
    return None
