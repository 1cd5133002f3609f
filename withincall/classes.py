"""Classes: states that lead to each other, and the moves that lead out of a class.

The states of a class differ only at stages that are not fixed, and in them every channel that is not
hard is empty or ready. Both are bounds, and links between them, as in the lattice module.
"""

from withincall.boxes import Box
from withincall.checks import check_number, check_product
from withincall.lattice import Caps, plain_link, tightened
from withincall.moves import all_moves, is_allowed, make, other_kind, side_of, state_behind
from withincall.reach import all_objections
from withincall.states import check_state


def mutual(net, first, second):
    """True if each of the two states is reached from the other."""
    check_state(net, first)
    check_state(net, second)
    return not all_objections(net, first, second) and not all_objections(net, second, first)


def hard_channels(net, state):
    """The channels that are owing or jammed, in ascending order."""
    check_state(net, state)
    return tuple(_hard_channels(net, state))


def fixed_stages(net, state):
    """The stages that have the same counter in all states of the class, in ascending order."""
    check_state(net, state)
    return tuple(_fixed_stages(net, state))


def class_floor(net, state):
    """The least state of the class."""
    check_state(net, state)
    return _class_caps(net, state).floors


def class_ceiling(net, state):
    """The greatest state of the class."""
    check_state(net, state)
    return tuple(_class_caps(net, state).bounds)


def is_two_way(net, state, move):
    """True if the state is reached from the state behind the move. Raise Blocked if it is not allowed."""
    return _leads_back(net, make(net, state, move), move)


def is_dead(net, state):
    """True if no move is allowed in the state."""
    check_state(net, state)
    return not any([is_allowed(net, state, move) for move in all_moves(net)])


def is_settled(net, state):
    """True if the state is reached from every state that is reached from it."""
    check_state(net, state)
    return not _exit_moves(net, state)


def members(net, state):
    """Yield the states of the class in ascending order. Raise TooLarge if there may be too many."""
    check_state(net, state)
    for member in _all_members(net, state):
        yield member


def exits(net, state):
    """Yield the pairs of a state of the class and a one-way move that is allowed in it, in ascending order."""
    check_state(net, state)
    found = _all_members(net, state)
    moves = _exit_moves(net, state)
    for member in found:
        for move in moves:
            if is_allowed(net, member, move) and not _leads_back(net, state_behind(member, move), move):
                yield (member, move)


def class_size(net, state):
    """The number of states in the class. Raise TooLarge if there may be too many."""
    check_state(net, state)
    return len(_all_members(net, state))


def class_rank(net, state):
    """The position of the state among the states of its class. Raise TooLarge if there may be too many."""
    check_state(net, state)
    return _all_members(net, state).index(state)


def class_member(net, state, rank):
    """The state of the class with this rank. Raise TooLarge or NotFound."""
    check_state(net, state)
    found = _all_members(net, state)
    check_number(rank, len(found))
    return found[rank]


def _is_hard(state, channel):
    """True if the channel is owing or jammed."""
    producer, consumer, capacity = channel
    return not 0 <= state[producer] - state[consumer] <= capacity


def _hard_channels(net, state):
    """The numbers of the channels of a checked state that are hard."""
    return [number for number, channel in enumerate(net.channels) if _is_hard(state, channel)]


def _fixed_stages(net, state):
    """The stages of a checked state that are fixed."""
    hard = [net.channels[number] for number in _hard_channels(net, state)]
    stages = list(range(net.stages))
    if net.is_ring() and not hard:
        return stages
    held = {stage: True for producer, consumer, _ in hard for stage in (producer, consumer)}
    return [stage for stage in stages if stage in held or not net.incoming(stage) or not net.outgoing(stage)]


def _class_caps(net, state):
    """The caps of the states of the class. The state itself is one."""
    lows = [Box.LOWEST] * net.stages
    highs = [Box.HIGHEST] * net.stages
    for stage in _fixed_stages(net, state):
        lows[stage] = highs[stage] = state[stage]
    links = []
    for producer, consumer, capacity in [channel for channel in net.channels if not _is_hard(state, channel)]:
        links.append(plain_link(producer, consumer, 0))
        links.append(plain_link(consumer, producer, capacity))
    return tightened(Caps(highs, lows, links))


def _leads_back(net, state, move):
    """True if the opposite of the move that led to the state is allowed there."""
    stage, kind = move
    return is_allowed(net, state, (stage, other_kind(kind)))


def _exit_moves(net, state):
    """The moves that are allowed and one-way in some state of the class, in ascending order."""
    hard = {channel: True for channel in _hard_channels(net, state)}
    fixed = {stage: True for stage in _fixed_stages(net, state)}
    caps = _class_caps(net, state)
    return [move for move in all_moves(net) if _is_exit(net, caps, move, hard, fixed)]


def _is_exit(net, caps, move, hard, fixed):
    """True if the move is allowed and one-way in some state of the class."""
    stage, kind = move
    side = side_of(net, move)
    if not side or any([channel in hard for channel in side]):
        return False
    # A ready channel has a load of 1 at least.
    needed = [plain_link(net.channels[channel][0], net.channels[channel][1], -1) for channel in side]
    if stage in fixed:
        return _allows(caps, needed)
    # The move cannot be taken back if it jams a channel that was full.
    full = [_full_link(net.channels[channel]) for channel in side_of(net, (stage, other_kind(kind)))]
    return any([_allows(caps, needed + [link]) for link in full])


def _full_link(channel):
    """The link that holds if the load of the channel is its capacity at least."""
    producer, consumer, capacity = channel
    return plain_link(producer, consumer, -capacity)


def _allows(caps, links):
    """True if some state that the caps allow meets these links, too."""
    return not Caps(caps.bounds, caps.floors, caps.links + links).short_stages()


def _all_members(net, state):
    """The states of the class in ascending order. Raise TooLarge if there may be too many."""
    caps = _class_caps(net, state)
    check_product([high - low + 1 for low, high in zip(caps.floors, caps.bounds)])
    rows = [()]
    for stage in range(net.stages):
        # The channels to the stages that stand in the rows already.
        sides = [net.channels[number] for number in (*net.incoming(stage), *net.outgoing(stage))]
        sides = [(producer, consumer, capacity) for producer, consumer, capacity in sides
                 if producer <= stage and consumer <= stage and not _is_hard(state, (producer, consumer, capacity))]
        longer = [(*row, counter) for row in rows for counter in range(caps.floors[stage], caps.bounds[stage] + 1)]
        rows = [row for row in longer if not any([_is_hard(row, channel) for channel in sides])]
    return rows
