"""Capacities that make targets reached."""

from withincall.errors import Unreachable
from withincall.reach import all_objections, draws_from
from withincall.states import check_state


def needed(net, *pairs):
    """The smallest capacities with which each pair's target is reached from its start."""
    return tuple(_needed(net, pairs))


def widened(net, *pairs):
    """The net with each capacity raised to the needed one where it is smaller."""
    own = [capacity for _, _, capacity in net.channels]
    wider = [max(capacity, other) for capacity, other in zip(own, _needed(net, pairs))]
    return net.resized(*wider)


def extra_slots(net, *pairs):
    """How many slots more than the net the widened net has."""
    return widened(net, *pairs).slots - net.slots


def lasting_objections(net, start, target):
    """The objections between two checked states that no capacities end, in ascending order."""
    return [objection for objection in all_objections(net, start, target) if objection[0] != "jammed"]


def drawn_loads(net, start, target):
    """The channels that the moves from the start to the target draw from, with their loads in the start."""
    found = []
    for number, channel in enumerate(net.channels):
        if draws_from(start, target, channel):
            found.append((number, start[channel[0]] - start[channel[1]]))
    return found


def _needed(net, pairs):
    """The needed capacities of pairs that are checked here."""
    for start, target in pairs:
        check_state(net, start)
        check_state(net, target)
    for start, target in pairs:
        lasting = lasting_objections(net, start, target)
        if lasting:
            raise Unreachable(lasting[0])
    found = [1] * len(net.channels)
    for start, target in pairs:
        for channel, load in drawn_loads(net, start, target):
            found[channel] = max(found[channel], load)
    return found
