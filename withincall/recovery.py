"""Recovery: how a state with orphans becomes clean, with as few moves as possible.

Items that the same stages hold are treated alike: a band is a row of such items. In each conflict of
a band the earlier stage has to rise or the later stage has to fall. So the stages that move cover the
conflicts of the band, and a largest choice of pairs shows that no cover is smaller.
"""

from withincall.checks import check_number, is_between
from withincall.errors import Unreachable, Unrecoverable
from withincall.moves import side_of
from withincall.nets import Net
from withincall.reach import all_objections
from withincall.states import check_state


class Clashes:
    """The conflicts of a checked state, and for each stage whether it may rise and whether it may fall."""

    def __init__(self, net, state):
        self._state = state
        self.found = tuple([(earlier, later) for earlier in range(net.stages)
                            for later in net.downstream(earlier) if state[earlier] < state[later]])
        self.rising = [_may_move(net, state, (stage, "advance")) for stage in range(net.stages)]
        self.falling = [_may_move(net, state, (stage, "rollback")) for stage in range(net.stages)]

    def hopeless(self):
        """The conflicts that no moves can end."""
        return [(earlier, later) for earlier, later in self.found
                if not self.rising[earlier] and not self.falling[later]]

    def within(self, first, last):
        """The conflicts in which the earlier stage holds none of these items and the later one all."""
        return [(earlier, later) for earlier, later in self.found
                if self._state[earlier] < first and self._state[later] >= last]

    def are_pairs(self, value, first, last):
        """True if the value may stand in a certificate as the pairs of the band with these items."""
        if not isinstance(value, tuple) or not value or not all([_is_pair(pair) for pair in value]):
            return False
        known = {pair: True for pair in self.within(first, last)}
        if not all([pair in known for pair in value]):
            return False
        if not all([value[at - 1] < value[at] for at in range(1, len(value))]):
            return False
        # Stages that may not move stand in any number of pairs.
        risen = [earlier for earlier, _ in value if self.rising[earlier]]
        fallen = [later for _, later in value if self.falling[later]]
        return len(set(risen)) == len(risen) and len(set(fallen)) == len(fallen)


class Band:
    """The conflicts of one band, and a choice of as many of them as possible as pairs.

    A stage that may move stands in one pair at the most. The search goes from the earlier stages
    that are free to stand in another pair to the later stages of their conflicts, and from a later
    stage that is not free to the earlier stages that it is paired with.
    """

    def __init__(self, inside, rising, falling):
        self._rising = rising
        self._falling = falling
        self._laters = {earlier: [] for earlier, _ in inside}
        self._partners = {later: {} for _, later in inside}
        self._paired = {}
        for earlier, later in inside:
            self._laters[earlier].append(later)
        found = self._search()
        while found[2] is not None:
            self._add_pair(*found)
            found = self._search()
        self._met_earliers, self._met_laters, _ = found

    def pairs(self):
        """The chosen pairs in ascending order."""
        return tuple(sorted([(earlier, later) for later in self._partners for earlier in self._partners[later]]))

    def risen_stages(self):
        """The stages that rise. As many as possible do, in place of others that would fall."""
        return [earlier for earlier in self._laters if earlier not in self._met_earliers]

    def fallen_stages(self):
        """The stages that fall."""
        return list(self._met_laters)

    def _search(self):
        """The stages that are met, each with the one before it, and a later stage that is free, or None."""
        earliers = {earlier: None for earlier in self._laters
                    if not self._rising[earlier] or earlier not in self._paired}
        laters = {}
        waiting = list(earliers)
        while waiting:
            earlier = waiting.pop()
            for later in self._laters[earlier]:
                if later in laters:
                    continue
                laters[later] = earlier
                if not self._falling[later] or not self._partners[later]:
                    return earliers, laters, later
                for partner in self._partners[later]:
                    if partner not in earliers:
                        earliers[partner] = later
                        waiting.append(partner)
        return earliers, laters, None

    def _add_pair(self, earliers, laters, later):
        """Pair the free later stage, and pair anew all stages on the way to it."""
        while later is not None:
            earlier = laters[later]
            self._partners[later][earlier] = True
            self._paired[earlier] = True
            later = earliers[earlier]
            if later is not None:
                del self._partners[later][earlier]


def conflicts(net, state):
    """All pairs of stages of which the upstream one has the smaller counter, in ascending order."""
    check_state(net, state)
    return Clashes(net, state).found


def may_rise(net, state, stage):
    """True if the stage has incoming channels and none of them is jammed."""
    check_state(net, state)
    check_number(stage, net.stages)
    return _may_move(net, state, (stage, "advance"))


def may_fall(net, state, stage):
    """True if the stage has outgoing channels and none of them is jammed."""
    check_state(net, state)
    check_number(stage, net.stages)
    return _may_move(net, state, (stage, "rollback"))


def rollback_line(net, state):
    """The greatest clean state that is nowhere above the state. Raise Unreachable if it is not reached."""
    check_state(net, state)
    others = [[state[other] for other in net.upstream(stage)] for stage in range(net.stages)]
    return _reached_line(net, state, [min([counter] + row) for counter, row in zip(state, others)])


def replay_line(net, state):
    """The least clean state that is nowhere below the state. Raise Unreachable if it is not reached."""
    check_state(net, state)
    others = [[state[other] for other in net.downstream(stage)] for stage in range(net.stages)]
    return _reached_line(net, state, [max([counter] + row) for counter, row in zip(state, others)])


def is_recoverable(net, state):
    """True if some clean state is reached."""
    check_state(net, state)
    return not Clashes(net, state).hopeless()


def cheapest(net, state):
    """The greatest clean state at the least distance. Raise Unrecoverable if none is reached."""
    check_state(net, state)
    counters = list(state)
    for first, last, band in _all_bands(net, state):
        many = last - first + 1
        for stage in band.risen_stages():
            counters[stage] += many
        for stage in band.fallen_stages():
            counters[stage] -= many
    return tuple(counters)


def cost_certificate(net, state):
    """A certificate that no recovery is cheaper than `cheapest`. Raise Unrecoverable if there is none."""
    check_state(net, state)
    return tuple([(first, last, band.pairs()) for first, last, band in _all_bands(net, state)])


def shown_cost(net, state, certificate):
    """The cost that a valid certificate shows, or None."""
    check_state(net, state)
    if not isinstance(certificate, tuple):
        return None
    clashes = Clashes(net, state)
    cost = 0
    lowest = 1
    for band in certificate:
        if not _is_band(clashes, band, lowest):
            return None
        first, last, pairs = band
        cost += (last - first + 1) * len(pairs)
        lowest = last + 1
    return cost


def _may_move(net, state, move):
    """True if the move has channels on its side and none of them is jammed."""
    side = [net.channels[channel] for channel in side_of(net, move)]
    return len(side) > 0 and all([state[producer] - state[consumer] <= capacity
                                  for producer, consumer, capacity in side])


def _reached_line(net, state, counters):
    """The counters as a state. Raise Unreachable if it is not reached."""
    line = tuple(counters)
    found = all_objections(net, state, line)
    if found:
        raise Unreachable(found[0])
    return line


def _all_bands(net, state):
    """The first and the last item of each band with conflicts, and the band, in ascending order."""
    clashes = Clashes(net, state)
    hopeless = clashes.hopeless()
    if hopeless:
        raise Unrecoverable(hopeless[0])
    found = []
    lowest = 1
    for last in sorted({counter: True for counter in state if counter > 0}):
        inside = clashes.within(lowest, last)
        if inside:
            found.append((lowest, last, Band(inside, clashes.rising, clashes.falling)))
        lowest = last + 1
    return found


def _is_band(clashes, value, lowest):
    """True if the value is a band of a certificate that begins at the lowest item or above it."""
    if not isinstance(value, tuple) or len(value) != 3:
        return False
    first, last, pairs = value
    if not is_between(first, lowest, Net.MOST_COUNTER) or not is_between(last, first, Net.MOST_COUNTER):
        return False
    return clashes.are_pairs(pairs, first, last)


def _is_pair(value):
    """True if the value can be a pair of stages."""
    if not isinstance(value, tuple) or len(value) != 2:
        return False
    return all([is_between(stage, 0, Net.MOST_STAGES - 1) for stage in value])
