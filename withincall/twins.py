"""Twins: nets that differ in their capacities only, and how a run can tell them apart."""

from withincall.errors import InvalidNet
from withincall.extents import Nearby, caps_within
from withincall.lattice import reached_caps
from withincall.moves import all_moves, side_of
from withincall.states import check_state


def same_shape(net, other):
    """True if the nets are of one kind and have the same stages, producers and consumers."""
    return net.is_ring() == other.is_ring() and net.stages == other.stages and _ends(net) == _ends(other)


def parting(net, other, start):
    """The least distance at which a move is allowed in one net only, the state, and the move; or None."""
    check_state(net, start)
    if not same_shape(net, other):
        raise InvalidNet("shape", None)
    capacities = [min(own, wide) for own, wide in zip(_capacities(net), _capacities(other))]
    # Runs that are allowed in both nets are the runs of this one.
    reached = reached_caps(net.resized(*capacities), start)
    found = None
    best = None
    for move in all_moves(net):
        for windows in _parting_windows(net, other, move):
            caps = caps_within(reached, windows)
            if caps is not None:
                nearer = Nearby(caps, start, move[0]).search(best)
                if best is None or nearer < best:
                    best = nearer
                    found = (*best, move)
    return found


def alike(net, other, start):
    """True if no run tells the two nets apart."""
    return parting(net, other, start) is None


def _ends(net):
    """The producers and consumers of the channels."""
    return [(producer, consumer) for producer, consumer, _ in net.channels]


def _capacities(net):
    """The capacities of the channels."""
    return [capacity for _, _, capacity in net.channels]


def _parting_windows(net, other, move):
    """The windows of loads with which the move is allowed in one of the nets only.

    It is allowed in the net with the wider channel, and that channel is jammed in the other net.
    """
    found = []
    side = side_of(net, move)
    for first, second in ((net, other), (other, net)):
        for jammed in side:
            if first.channels[jammed][2] > second.channels[jammed][2]:
                windows = []
                for channel in side:
                    producer, consumer, most = first.channels[channel]
                    least = second.channels[jammed][2] + 1 if channel == jammed else 1
                    windows.append((producer, consumer, least, most))
                found.append(windows)
    return found
