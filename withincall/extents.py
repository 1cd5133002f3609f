"""Extents: the windows through which the reached states go, and the moves that they allow."""

from withincall.checks import check_number
from withincall.lattice import Caps, caps_below, clamped, negated, plain_link, reached_caps
from withincall.moves import all_moves, check_move, side_of
from withincall.reach import moves_between
from withincall.states import check_state


def extent(net, start, stage):
    """The least and the greatest counter of the stage in the reached states."""
    check_state(net, start)
    check_number(stage, net.stages)
    caps = reached_caps(net, start)
    return (-caps_below(caps).bounds[stage], caps.bounds[stage])


def gap_extent(net, start, first, second):
    """The least and the greatest difference of two stages' counters in the reached states."""
    check_state(net, start)
    check_number(first, net.stages)
    check_number(second, net.stages)
    caps, lows = _reached_limits(net, start)
    return (-_widest_gap(caps, lows, start, second, first), _widest_gap(caps, lows, start, first, second))


def soonest(net, start, move):
    """The distance and the nearest reached state in which the move is allowed, or None."""
    check_state(net, start)
    check_move(net, move)
    above = _allowing_caps(net, _reached_limits(net, start), move)
    if above is None:
        return None
    stage, kind = move
    below = caps_below(above)
    if kind == "advance":
        return min(_nearest_states(above, below, start, stage))
    # A rollback is an advance in the numbers below 0.
    found = _nearest_states(below, above, negated(start), stage)
    return min([(size, negated(state)) for size, state in found])


def live_moves(net, start):
    """The moves that are allowed in some reached state, in ascending order."""
    check_state(net, start)
    reached = _reached_limits(net, start)
    return tuple([move for move in all_moves(net) if _allowing_caps(net, reached, move) is not None])


def _widest_gap(caps, lows, start, first, second):
    """The greatest difference, the first stage's counter minus the second one's."""
    # As the cap of the second stage rises, that of the first one rises no faster, but for a jump
    # where some link turns. Links turn at counters of the start only.
    limits = [lows[second]] + [counter for counter in start if counter > lows[second]]
    states = [caps.capped(second, limit) for limit in limits]
    return max([state[first] - state[second] for state in states])


def _reached_limits(net, start):
    """The caps of the reached states, and the least reached state."""
    caps = reached_caps(net, start)
    return caps, negated(caps_below(caps).bounds)


def _allowing_caps(net, reached, move):
    """The caps of the reached states in which the move is allowed, or None if there are none."""
    side = side_of(net, move)
    if not side:
        return None
    links = []
    for producer, consumer, capacity in [net.channels[channel] for channel in side]:
        links.append(plain_link(producer, consumer, -1))
        links.append(plain_link(consumer, producer, capacity))
    caps, lows = reached
    allowing = Caps(caps.bounds, lows, caps.links + links)
    return None if allowing.short_stages() else allowing


def _nearest_states(above, below, start, stage):
    """The states that may be the soonest for an advance of the stage, behind their distances.

    For each counter that the stage can have there is one state that is the nearest at every stage.
    The soonest state's counter is never above the start's: before an advance beyond that, the move
    would have been allowed sooner.
    """
    found = []
    most = None
    counter = min(start[stage], above.bounds[stage])
    while counter >= -below.bounds[stage] and (most is None or start[stage] - counter <= most):
        highs = above.capped(stage, counter)
        counter = highs[stage]
        lows = negated(below.capped(stage, -counter))
        state = clamped(start, lows, highs)
        size = moves_between(start, state)
        found.append((size, state))
        most = size if most is None else min(most, size)
        counter -= 1
    return found
