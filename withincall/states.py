"""States: what the counters of a net say about its channels."""

from withincall.checks import check_number, is_between
from withincall.errors import InvalidState, NotFound
from withincall.nets import Net


def check_state(net, state):
    """Return the state. Raise InvalidState if it is not a state of the net."""
    if not isinstance(state, tuple) or len(state) != net.stages:
        raise InvalidState(None)
    for position, counter in enumerate(state):
        if not is_between(counter, 0, Net.MOST_COUNTER):
            raise InvalidState(position)
    return state


def load(net, state, channel):
    """The producer's counter minus the consumer's counter."""
    check_state(net, state)
    check_number(channel, len(net.channels))
    producer, consumer, _ = net.channels[channel]
    return state[producer] - state[consumer]


def condition(net, state, channel):
    """The word for the channel's load."""
    amount = load(net, state, channel)
    return _condition_word(amount, net.channels[channel][2])


def loads(net, state):
    """The loads of all channels, in their order."""
    check_state(net, state)
    return tuple([state[producer] - state[consumer] for producer, consumer, _ in net.channels])


def conditions(net, state):
    """The conditions of all channels, in their order."""
    amounts = loads(net, state)
    capacities = [capacity for _, _, capacity in net.channels]
    return tuple([_condition_word(amount, capacity) for amount, capacity in zip(amounts, capacities)])


def holders(net, state, item):
    """The stages that hold the item, in ascending order."""
    check_state(net, state)
    if not is_between(item, 1, Net.MOST_COUNTER):
        raise NotFound(item)
    return tuple([stage for stage, counter in enumerate(state) if counter >= item])


def orphans(net, state):
    """For each owing channel its number, its first orphan and its last orphan."""
    check_state(net, state)
    found = []
    for number, (producer, consumer, _) in enumerate(net.channels):
        if state[producer] < state[consumer]:
            found.append((number, state[producer] + 1, state[consumer]))
    return tuple(found)


def is_clean(net, state):
    """True if no channel is owing."""
    return all([amount >= 0 for amount in loads(net, state)])


def mirror_state(net, state):
    """The state of the mirrored net that has the same loads."""
    check_state(net, state)
    return tuple([Net.MOST_COUNTER - counter for counter in reversed(state)])


def _condition_word(amount, capacity):
    """The condition of a channel with this load and this capacity."""
    if amount < 0:
        return "owing"
    if amount == 0:
        return "empty"
    if amount <= capacity:
        return "ready"
    return "jammed"
