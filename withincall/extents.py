"""Extents: the windows through which the reached states go, and the moves that they allow."""

from withincall.checks import check_number
from withincall.lattice import Caps, caps_below, clamped, negated, plain_link, reached_caps, tightened
from withincall.moves import all_moves, check_move, side_of
from withincall.states import check_state


class Nearby:
    """A search for the state nearest to the start among the states that some caps allow.

    Of the states in which one stage has a given counter, one is the nearest at every stage. This
    one rises with the counter. So, as the counter rises, fewer moves lead down to it, and more lead
    up. As long as no link turns, the sum of both has no low point but one.
    """

    def __init__(self, caps, start, stage):
        self._above = caps
        self._below = caps_below(caps)
        self._start = start
        self._stage = stage
        self._best = None

    def search(self, best):
        """The least of this pair, which may be None, and all pairs of a distance and an allowed state."""
        self._best = best
        low = self._place_from(self._above.floors[self._stage])
        high = self._place_up_to(self._above.bounds[self._stage])
        self._note(low)
        self._note(high)
        self._look_between(low, high)
        return self._best

    def _place_from(self, counter):
        """The place at the least possible counter of the stage that is not below this one."""
        lows = negated(self._below.capped(self._stage, -counter))
        return self._place(lows, self._above.capped(self._stage, lows[self._stage]))

    def _place_up_to(self, counter):
        """The place at the greatest possible counter of the stage that is not above this one."""
        highs = self._above.capped(self._stage, counter)
        return self._place(negated(self._below.capped(self._stage, -highs[self._stage])), highs)

    def _place(self, lows, highs):
        """The nearest state between these two, and what is asked of it."""
        turns = _turns(self._above, highs) + _turns(self._below, negated(lows))
        return Place(self._start, clamped(self._start, lows, highs), self._stage, turns)

    def _note(self, place):
        """Keep the place if it is the best one so far."""
        found = (place.falls + place.rises, place.nearest)
        if self._best is None or found < self._best:
            self._best = found

    def _look_between(self, low, high):
        """Note the best place between two places that are noted."""
        # None between the two needs fewer moves than this, or has a lower counter than the low one.
        least = (high.falls + low.rises, low.nearest)
        if high.counter - low.counter < 2 or least > self._best:
            return
        if low.turns == high.turns:
            self._descend(low.counter, high.counter)
            return
        middle = (low.counter + high.counter) // 2
        left = self._place_up_to(middle)
        right = self._place_from(middle + 1)
        self._note(left)
        self._note(right)
        self._look_between(low, left)
        self._look_between(right, high)

    def _descend(self, low, high):
        """Note the best place from the low to the high counter if no link turns between them."""
        while low < high:
            middle = (low + high) // 2
            left = self._place_up_to(middle)
            right = self._place_from(middle + 1)
            if left.falls + left.rises <= right.falls + right.rises:
                high = middle
            else:
                low = middle + 1
        self._note(self._place_up_to(low))


class Place:
    """The nearest state in which a stage has one counter, and the moves that lead down and up to it."""

    def __init__(self, start, nearest, stage, turns):
        self.nearest = nearest
        self.counter = nearest[stage]
        self.turns = turns
        self.falls = sum([max(0, counter - other) for counter, other in zip(start, nearest)])
        self.rises = sum([max(0, other - counter) for counter, other in zip(start, nearest)])


def extent(net, start, stage):
    """The least and the greatest counter of the stage in the reached states."""
    check_state(net, start)
    check_number(stage, net.stages)
    caps = reached_caps(net, start)
    return (caps.floors[stage], caps.bounds[stage])


def gap_extent(net, start, first, second):
    """The least and the greatest difference of two stages' counters in the reached states."""
    check_state(net, start)
    check_number(first, net.stages)
    check_number(second, net.stages)
    caps = reached_caps(net, start)
    return (-_widest_gap(caps, start, second, first), _widest_gap(caps, start, first, second))


def soonest(net, start, move):
    """The distance and the nearest reached state in which the move is allowed, or None."""
    check_state(net, start)
    check_move(net, move)
    caps = _allowing_caps(net, reached_caps(net, start), move)
    return None if caps is None else Nearby(caps, start, move[0]).search(None)


def live_moves(net, start):
    """The moves that are allowed in some reached state, in ascending order."""
    check_state(net, start)
    reached = reached_caps(net, start)
    return tuple([move for move in all_moves(net) if _allowing_caps(net, reached, move) is not None])


def caps_within(caps, windows):
    """The caps with a window for the loads of some channels, or None if they allow no state then.

    A window is a producer, a consumer, and the least and the greatest load.
    """
    links = []
    for producer, consumer, low, high in windows:
        links.append(plain_link(producer, consumer, -low))
        links.append(plain_link(consumer, producer, high))
    narrower = Caps(caps.bounds, caps.floors, caps.links + links)
    return None if narrower.short_stages() else tightened(narrower)


def _widest_gap(caps, start, first, second):
    """The greatest difference, the first stage's counter minus the second one's."""
    # As the cap of the second stage rises, that of the first one rises no faster, but for a jump
    # where some link turns. Links turn at counters of the start only.
    lowest = caps.floors[second]
    states = [caps.capped(second, limit) for limit in (lowest, *start) if limit >= lowest]
    return max([state[first] - state[second] for state in states])


def _allowing_caps(net, caps, move):
    """The caps of the reached states in which the move is allowed, or None if there are none."""
    side = [net.channels[channel] for channel in side_of(net, move)]
    if not side:
        return None
    return caps_within(caps, [(producer, consumer, 1, capacity) for producer, consumer, capacity in side])


def _turns(caps, bounds):
    """For each link that turns, whether these bounds lie below the two counters between which it turns."""
    return [(bounds[first] < turn, bounds[first] + more < other)
            for first, _, more, turn, other in caps.links if other > turn + more]
