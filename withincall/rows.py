"""Rows: pipelines that lead from each stage to the next one, counted stage by stage.

What is asked of a state of a row is asked of each two neighbours alone. So the work grows with the
length of the row, not with the number of its states.
"""

from withincall.checks import check_number
from withincall.errors import InvalidNet, TooLarge, Unreachable
from withincall.lattice import reached_caps
from withincall.nets import Pipeline
from withincall.reach import all_objections
from withincall.states import check_state

MOST_LEVELS = 8
MOST_COUNTERS = 60


class Census:
    """The states that are reached from a start in a row, in ascending order."""

    def __init__(self, net, start):
        windows = _checked_windows(net, start)
        self._net = net
        self._start = start
        # For each counter of a stage, in how many ways the stages behind it can go on.
        self._ways = [{counter: 1 for counter in windows[-1]}]
        for channel in reversed(range(len(net.channels))):
            after = self._ways[0]
            ways = {counter: sum([after[other] for other in after if self._joins(channel, counter, other)])
                    for counter in windows[channel]}
            self._ways = [ways] + self._ways
        self._many = sum(list(self._ways[0].values()))

    @property
    def many(self):
        """The number of the states."""
        return self._many

    def rank(self, target):
        """The position of the target among the states. Raise Unreachable if it is none of them."""
        check_state(self._net, target)
        found = all_objections(self._net, self._start, target)
        if found:
            raise Unreachable(found[0])
        rank = 0
        for stage, counter in enumerate(target):
            rank += sum([many for other, many in self._choices(target[:stage]) if other < counter])
        return rank

    def state_at(self, rank):
        """The state with this rank."""
        check_number(rank, self._many)
        state = ()
        while len(state) < self._net.stages:
            choices = self._choices(state)
            at = 0
            while rank >= choices[at][1]:
                rank -= choices[at][1]
                at += 1
            state = (*state, choices[at][0])
        return state

    def _joins(self, channel, producer, consumer):
        """True if the ends of the channel have these counters in some reached state."""
        return _is_let_through(self._net.channels[channel][2], self._start[channel:channel + 2], (producer, consumer))

    def _choices(self, counters):
        """The counters that may follow upon these, each with the number of states that begin so."""
        stage = len(counters)
        return [(counter, many) for counter, many in self._ways[stage].items()
                if stage == 0 or self._joins(stage - 1, counters[-1], counter)]


def count_dead(levels, *capacities):
    """How many states with counters below the levels are dead."""
    _check_row(levels, capacities)
    counters = list(range(levels))
    return _count(counters, counters, capacities, _stays_dead)


def count_clean(levels, *capacities):
    """How many states with counters below the levels are clean."""
    _check_row(levels, capacities)
    counters = list(range(levels))
    return _count(counters, counters, capacities, _stays_clean)


def count_classes(levels, *capacities):
    """How many classes the states with counters below the levels form."""
    _check_row(levels, capacities)
    # Each class has one floor. Beside a counter stands whether the channel that leads to the stage
    # would be ready behind a rollback of the stage.
    firsts = [(counter, False) for counter in range(levels)]
    marked = firsts + [(counter, True) for counter in range(levels)]
    return _count(firsts, marked, capacities, _stays_floor)


def count_pairs(levels, *capacities):
    """How many ordered pairs of a start with counters below the levels and a state reached from it there are."""
    _check_row(levels, capacities)
    pairs = [(counter, target) for counter in range(levels) for target in range(levels)]
    firsts = [(counter, target) for counter, target in pairs if target <= counter]
    ways = _row_ways(firsts, pairs, capacities, _stays_reached)
    return sum([many for (counter, target), many in ways.items() if target >= counter])


def nearest_dead(net, start):
    """The least distance to a dead state that is reached from the start, and the first such state."""
    windows = _checked_windows(net, start)
    # For each counter of a stage the moves that the stage and those behind it need. The next stage can
    # always follow: to the same counter, or else it stays behind an owing or a jammed channel.
    costs = [{counter: abs(counter - start[-1]) for counter in windows[-1]}]
    for channel in reversed(range(len(net.channels))):
        here = {counter: abs(counter - start[channel]) + min(_dead_costs(net, start, costs[0], channel, counter))[0]
                for counter in windows[channel]}
        costs = [here] + costs
    best = min([(cost, counter) for counter, cost in costs[0].items()])
    state = [best[1]]
    for channel in range(len(net.channels)):
        state.append(min(_dead_costs(net, start, costs[channel + 1], channel, state[-1]))[1])
    return (best[0], tuple(state))


def _check_row(levels, capacities):
    """Raise the errors of the levels and of the capacities of a row."""
    if levels > MOST_LEVELS:
        raise TooLarge(levels, MOST_LEVELS)
    Pipeline.row(*capacities)


def _count(firsts, values, capacities, joins):
    """In how many ways the stages of a row can have these values, if each two neighbours are joined."""
    return sum(list(_row_ways(firsts, values, capacities, joins).values()))


def _row_ways(firsts, values, capacities, joins):
    """In how many ways the stages can have these values, by the value of the last stage."""
    ways = {value: 1 for value in firsts}
    for capacity in capacities:
        ways = {value: sum([many for other, many in ways.items() if joins(capacity, other, value)])
                for value in values}
    return ways


def _stays_dead(capacity, producer, consumer):
    """True if the channel is not ready."""
    return not 1 <= producer - consumer <= capacity


def _stays_clean(_, producer, consumer):
    """True if the channel is not owing, whatever its capacity is."""
    return producer >= consumer


def _stays_floor(capacity, producer, consumer):
    """True if the producer has no two-way rollback, and the consumer's mark is right."""
    load = producer[0] - consumer[0]
    if producer[1] and 1 <= load <= capacity:
        return False
    return consumer[1] == (0 <= load < capacity)


def _stays_reached(capacity, producer, consumer):
    """True if the channel has no objection to the targets of its ends."""
    return _is_let_through(capacity, (producer[0], consumer[0]), (producer[1], consumer[1]))


def _is_let_through(capacity, starts, targets):
    """True if a channel with these counters at its ends has no objection to these targets."""
    if targets[0] >= starts[0] and targets[1] <= starts[1]:
        return True
    return starts[0] - starts[1] <= capacity and targets[0] >= targets[1]


def _checked_windows(net, start):
    """For each stage of a row its counters from the least to the greatest one that is reached."""
    check_state(net, start)
    ends = [(producer, consumer) for producer, consumer, _ in net.channels]
    if ends != [(stage, stage + 1) for stage in range(net.stages - 1)]:
        raise InvalidNet("row", None)
    caps = reached_caps(net, start)
    size = max([high - low + 1 for low, high in zip(caps.floors, caps.bounds)])
    if size > MOST_COUNTERS:
        raise TooLarge(size, MOST_COUNTERS)
    return [list(range(low, high + 1)) for low, high in zip(caps.floors, caps.bounds)]


def _dead_costs(net, start, costs, channel, counter):
    """What the consumers' counters cost that leave the channel dead, beside the producer's counter."""
    capacity = net.channels[channel][2]
    starts = start[channel:channel + 2]
    return [(cost, other) for other, cost in costs.items()
            if _stays_dead(capacity, counter, other) and _is_let_through(capacity, starts, (counter, other))]
